package transfer_test

import (
	"encoding/hex"
	"fmt"
	"math/rand"
	"reflect"
	"regexp"
	"strconv"
	"strings"
	"testing"

	"archivum/api"
	"archivum/transfer"
)

// textOf is the text of a list, whether it is right or not.
func textOf(l api.TransferList) string {
	text := fmt.Sprintf("list %d %d %d\n", l.ID, l.Office, l.Day)
	for _, x := range l.Items {
		text += fmt.Sprintf("item %d %d %d %d %d %x %s\n", x.Number, x.File, x.Dating.First, x.Dating.Last, x.Pages, x.Digest, x.Title)
	}
	return text
}

// P16.4: the text of the example, and of the longest list.
func TestPrint(t *testing.T) {
	want := "list 3 8 100\n" +
		"item 1 70 5 9 30 " + hex.EncodeToString([]byte(digestOf(1))) + " Letters\n" +
		"item 4 71 2 6 20 " + hex.EncodeToString([]byte(digestOf(2))) + " Maps\n"
	if text, e := transfer.Print(example()); text != want || e != api.OK {
		t.Errorf("%q %v", text, e)
	}
	text, e := transfer.Print(greatest())
	if text != textOf(greatest()) || e != api.OK || len(text) > api.MaxData {
		t.Errorf("%q %v", text, e)
	}
	for i, x := range changes() {
		l := example()
		x.change(&l)
		if text, e := transfer.Print(l); text != "" || e != api.ErrArg {
			t.Errorf("%d %q %v", i, text, e)
		}
	}
	if text, e := transfer.Print(api.TransferList{ID: 1, Office: 1}); text != "" || e != api.ErrArg {
		t.Errorf("%q %v", text, e)
	}
}

// P16.4, P16.5: right lists are restored from their texts.
func TestRestore(t *testing.T) {
	r := rand.New(rand.NewSource(5))
	lists := []api.TransferList{example(), long(1), long(128), greatest()}
	for range 3000 {
		lists = append(lists, some(r))
	}
	for _, l := range lists {
		if !isRight(l) {
			continue
		}
		text, e := transfer.Print(l)
		if e != api.OK || text != textOf(l) {
			t.Fatalf("%q %v", text, e)
		}
		if back, n, e := transfer.Parse(text); n != 0 || e != api.OK || !reflect.DeepEqual(back, l) {
			t.Fatalf("%q %+v %v %v", text, back, n, e)
		}
	}
}

const numberForm = ` (0|[1-9][0-9]{0,9})`

// The forms of lines.
var (
	headForm = regexp.MustCompile(`^list` + strings.Repeat(numberForm, 3) + `\n$`)
	itemForm = regexp.MustCompile(`^item` + strings.Repeat(numberForm, 5) + ` ([0-9a-f]{64}) ([^\n]*)\n$`)
)

// parsing is what Parse has to return, by the definition.
func parsing(text string) (api.TransferList, int, api.Errno) {
	if len(text) > 65536 {
		return api.TransferList{}, 0, api.ErrTooLarge
	}
	value := func(s string) int {
		n, _ := strconv.Atoi(s)
		return n
	}
	var l api.TransferList
	lines := strings.SplitAfter(text, "\n")
	if len(lines) > 1 && lines[len(lines)-1] == "" {
		lines = lines[:len(lines)-1]
	}
	for i, line := range lines {
		if i == 0 {
			m := headForm.FindStringSubmatch(line)
			if m == nil {
				return api.TransferList{}, 1, api.ErrSyntax
			}
			l.ID, l.Office, l.Day = value(m[1]), value(m[2]), value(m[3])
			continue
		}
		m := itemForm.FindStringSubmatch(line)
		if m == nil {
			return api.TransferList{}, i + 1, api.ErrSyntax
		}
		digest, _ := hex.DecodeString(m[6])
		l.Items = append(l.Items, api.Listed{
			Number: value(m[1]), File: value(m[2]), Dating: api.Dating{First: value(m[3]), Last: value(m[4])},
			Pages: value(m[5]), Digest: string(digest), Title: m[7],
		})
	}
	if !isRight(l) {
		return api.TransferList{}, len(lines), api.ErrArg
	}
	return l, 0, api.OK
}

// P16.4: texts that have their form or have it not.
func TestParse(t *testing.T) {
	h := strings.Repeat("0f", 32)
	head, item := "list 1 2 3\n", "item 1 5 6 7 8 "+h+" x\n"
	for i, x := range []struct {
		text string
		line int
		e    api.Errno
	}{
		{head + item, 0, api.OK},
		{"list 1 2 0\n" + item, 0, api.OK},
		{head + "item 1 5 0 0 8 " + h + " x\n", 0, api.OK},
		{"", 1, api.ErrSyntax},
		{"\n", 1, api.ErrSyntax},
		{"list", 1, api.ErrSyntax},
		{"list\n", 1, api.ErrSyntax},
		{"list 1 2 3", 1, api.ErrSyntax},
		{"list 1 2\n", 1, api.ErrSyntax},
		{"list 1 2 \n", 1, api.ErrSyntax},
		{"list 1 2 3 \n", 1, api.ErrSyntax},
		{"list 1 2 3 4\n", 1, api.ErrSyntax},
		{"list 1  2 3\n", 1, api.ErrSyntax},
		{" list 1 2 3\n", 1, api.ErrSyntax},
		{"List 1 2 3\n", 1, api.ErrSyntax},
		{"list\t1 2 3\n", 1, api.ErrSyntax},
		{"list 1 2 3\r\n", 1, api.ErrSyntax},
		{"list 01 2 3\n", 1, api.ErrSyntax},
		{"list 1 00 3\n", 1, api.ErrSyntax},
		{"list 1 2 -3\n", 1, api.ErrSyntax},
		{"list +1 2 3\n", 1, api.ErrSyntax},
		{"list 1 2 0x3\n", 1, api.ErrSyntax},
		{"list 1 2 3.0\n", 1, api.ErrSyntax},
		{"list 1 2 1_0\n" + item, 1, api.ErrSyntax},
		{"list 12345678901 2 3\n", 1, api.ErrSyntax},
		{"list 1 2 " + strings.Repeat("9", 30) + "\n", 1, api.ErrSyntax},
		{item, 1, api.ErrSyntax},
		{item + head, 1, api.ErrSyntax},
		{head, 1, api.ErrArg},
		{head + head, 2, api.ErrSyntax},
		{head + "\n", 2, api.ErrSyntax},
		{head + item + "\n", 3, api.ErrSyntax},
		{head + item + "x", 3, api.ErrSyntax},
		{head + "\n" + item, 2, api.ErrSyntax},
		{"\n" + head + item, 1, api.ErrSyntax},
		{head + item[:len(item)-1], 2, api.ErrSyntax},
		{head + item + item[:len(item)-1], 3, api.ErrSyntax},
		{"list 0 2 3\n" + item, 2, api.ErrArg},
		{"list 9999999999 2 3\n" + item, 2, api.ErrArg},
		{"list 1 0 3\n" + item, 2, api.ErrArg},
		{"list 1 2 1048576\n" + item, 2, api.ErrArg},
		{"list 0 2 3\n" + "?\n", 2, api.ErrSyntax},
		{head + item + item, 3, api.ErrArg},
		{head + item + "item 2 5 6 7 8 " + h + " x\n", 3, api.ErrArg},
		{head + item + "item 2 4 6 7 8 " + h + " x\n", 0, api.OK},
		{head + "item 0 5 6 7 8 " + h + " x\n" + item, 3, api.ErrArg},
		{head + "item 10000 5 6 7 8 " + h + " x\n", 2, api.ErrArg},
		{head + "item 9999999999 9999999999 9999999999 9999999999 9999999999 " + h + " x\n", 2, api.ErrArg},
		{head + "item 1 5 6 7 10000000000 " + h + " x\n", 2, api.ErrSyntax},
		{head + "item 1 5 7 6 8 " + h + " x\n", 2, api.ErrArg},
		{head + "item 1 5 6 7 0 " + h + " x\n", 2, api.ErrArg},
		{head + "item 1 5 6 7 " + h + " x\n", 2, api.ErrSyntax},
		{head + "item 1 5 6 7 8 8 " + h + " x\n", 2, api.ErrSyntax},
		{head + "item 1 5 6 7 8 " + h + "\n", 2, api.ErrSyntax},
		{head + "item 1 5 6 7 8 " + h + " \n", 2, api.ErrArg},
		{head + "item 1 5 6 7 8 " + h + "  x\n", 2, api.ErrArg},
		{head + "item 1 5 6 7 8 " + h + " x \n", 2, api.ErrArg},
		{head + "item 1 5 6 7 8 " + h + " x  y\n", 2, api.ErrArg},
		{head + "item 1 5 6 7 8 " + h + " x y z 1 2\n", 0, api.OK},
		{head + "item 1 5 6 7 8 " + h + " x\r\n", 2, api.ErrArg},
		{head + "item 1 5 6 7 8 " + h + " \x00\xff\n", 2, api.ErrArg},
		{head + "item 1 5 6 7 8 " + h + " " + strings.Repeat("x", 64) + "\n", 0, api.OK},
		{head + "item 1 5 6 7 8 " + h + " " + strings.Repeat("x", 65) + "\n", 2, api.ErrArg},
		{head + "item 1 5 6 7 8 " + h + " " + strings.Repeat("x", 65000) + "\n", 2, api.ErrArg},
		{head + "item 1 5 6 7 8 " + h[1:] + " x\n", 2, api.ErrSyntax},
		{head + "item 1 5 6 7 8 " + h[2:] + " x\n", 2, api.ErrSyntax},
		{head + "item 1 5 6 7 8 " + h + "0 x\n", 2, api.ErrSyntax},
		{head + "item 1 5 6 7 8 " + h + "00 x\n", 2, api.ErrSyntax},
		{head + "item 1 5 6 7 8 " + strings.ToUpper(h) + " x\n", 2, api.ErrSyntax},
		{head + "item 1 5 6 7 8 " + strings.Repeat("g", 64) + " x\n", 2, api.ErrSyntax},
		{head + "item 1 5 6 7 8  x\n", 2, api.ErrSyntax},
		{head + "item 1 5 6 7 8 " + strings.Repeat("/", 64) + " x\n", 2, api.ErrSyntax},
		{head + "item 1 05 6 7 8 " + h + " x\n", 2, api.ErrSyntax},
		{head + "item 1 5 -6 7 8 " + h + " x\n", 2, api.ErrSyntax},
		{head + "item  1 5 6 7 8 " + h + " x\n", 2, api.ErrSyntax},
		{head + " item 1 5 6 7 8 " + h + " x\n", 2, api.ErrSyntax},
		{head + "items 1 5 6 7 8 " + h + " x\n", 2, api.ErrSyntax},
		{head + "item\n", 2, api.ErrSyntax},
		{strings.Repeat("a", 65536), 1, api.ErrSyntax},
		{strings.Repeat("a", 65537), 0, api.ErrTooLarge},
		{head + strings.Repeat("\n", 65537), 0, api.ErrTooLarge},
		{head + strings.Repeat("\n", 65000), 2, api.ErrSyntax},
	} {
		want, line, fault := parsing(x.text)
		if line != x.line || fault != x.e {
			t.Error(i, line, fault)
		}
		if l, n, e := transfer.Parse(x.text); n != x.line || e != x.e || !reflect.DeepEqual(l, want) {
			t.Errorf("%d %q %+v %v %v", i, x.text, l, n, e)
		}
	}
}

// P16.4: texts with more items than lists can have, and as many as a text can have.
func TestParseLong(t *testing.T) {
	text := textOf(long(129))
	if l, n, e := transfer.Parse(text); n != 130 || e != api.ErrArg || !reflect.DeepEqual(l, api.TransferList{}) {
		t.Error(n, e)
	}
	text = textOf(long(600))
	if l, n, e := transfer.Parse(text); n != 601 || e != api.ErrArg || !reflect.DeepEqual(l, api.TransferList{}) {
		t.Error(n, e)
	}
	rest := 65536 - len(text)
	text += "item 601 1 1 1 1 " + strings.Repeat("00", 32) + " "
	for len(text) < 65535 {
		text += "x"
	}
	text += "\n"
	if _, n, e := transfer.Parse(text); n != 602 || e != api.ErrArg || len(text) != 65536 {
		t.Error(n, e, rest)
	}
	if _, n, e := transfer.Parse(text + "\n"); n != 0 || e != api.ErrTooLarge {
		t.Error(n, e)
	}
}

// P16.4, P16.5, P2: texts that are changed a little; what is read is printed as the same text.
func TestParseMany(t *testing.T) {
	r := rand.New(rand.NewSource(6))
	results := map[api.Errno]int{}
	for range 30000 {
		text := textOf(some(r))
		for range r.Intn(3) {
			k := r.Intn(len(text))
			switch r.Intn(3) {
			case 0:
				text = text[:k] + text[k+1:]
			case 1:
				text = text[:k] + string("019afgx \n-."[r.Intn(11)]) + text[k:]
			case 2:
				text = text[:k] + string("019afgx \n-."[r.Intn(11)]) + text[k+1:]
			}
		}
		want, line, fault := parsing(text)
		l, n, e := transfer.Parse(text)
		if n != line || e != fault || !reflect.DeepEqual(l, want) {
			t.Fatalf("%q %+v %v %v", text, l, n, e)
		}
		results[e]++
		if e != api.OK {
			continue
		}
		if back, e := transfer.Print(l); back != text || e != api.OK {
			t.Fatalf("%q %q %v", text, back, e)
		}
	}
	if results[api.OK] < 1000 || results[api.ErrSyntax] < 1000 || results[api.ErrArg] < 1000 {
		t.Error(results)
	}
}
