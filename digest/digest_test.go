package digest_test

import (
	"crypto/sha3"
	"encoding/hex"
	"math/bits"
	"strconv"
	"strings"
	"testing"

	"archivum/api"
	"archivum/digest"
)

// sample returns n bytes of which neighbours differ, and all of which occur.
func sample(n int) string {
	b := make([]byte, n)
	for i := range b {
		b[i] = byte(i*i*7 + i*31 + i/256)
	}
	return string(b)
}

func reference(data string) string {
	d := sha3.Sum256([]byte(data))
	return string(d[:])
}

// P1.1: the zero state, permuted once and twice, as published with Keccak-f[1600].
func TestPermuteKnown(t *testing.T) {
	once := [25]uint64{
		0xF1258F7940E1DDE7, 0x84D5CCF933C0478A, 0xD598261EA65AA9EE, 0xBD1547306F80494D, 0x8B284E056253D057,
		0xFF97A42D7F8E6FD4, 0x90FEE5A0A44647C4, 0x8C5BDA0CD6192E76, 0xAD30A6F71B19059C, 0x30935AB7D08FFC64,
		0xEB5AA93F2317D635, 0xA9A6E6260D712103, 0x81A57C16DBCF555F, 0x43B831CD0347C826, 0x01F22F1A11A5569F,
		0x05E5635A21D9AE61, 0x64BEFEF28CC970F2, 0x613670957BC46611, 0xB87C5A554FD00ECB, 0x8C3EE88A1CCF32C8,
		0x940C7922AE3A2614, 0x1841F924A2C509E4, 0x16F53526E70465C2, 0x75F644E97F30A13B, 0xEAF1FF7B5CECA249,
	}
	twice := [25]uint64{
		0x2D5C954DF96ECB3C, 0x6A332CD07057B56D, 0x093D8D1270D76B6C, 0x8A20D9B25569D094, 0x4F9C4F99E5E7F156,
		0xF957B9A2DA65FB38, 0x85773DAE1275AF0D, 0xFAF4F247C3D810F7, 0x1F1B9EE6F79A8759, 0xE4FECC0FEE98B425,
		0x68CE61B6B9CE68A1, 0xDEEA66C4BA8F974F, 0x33C43D836EAFB1F5, 0xE00654042719DBD9, 0x7CF8A9F009831265,
		0xFD5449A6BF174743, 0x97DDAD33D8994B40, 0x48EAD5FC5D0BE774, 0xE3B8C8EE55B7B03C, 0x91A0226E649E42E9,
		0x900E3129E7BADD7B, 0x202A9EC5FAA3CCE8, 0x5B3402464E1C3DB6, 0x609F4E62A44C1059, 0x20D06CD26A8FBF5C,
	}
	if got := digest.Permute([25]uint64{}); got != once {
		t.Errorf("once: %x", got)
	}
	if got := digest.Permute(once); got != twice {
		t.Errorf("twice: %x", got)
	}
}

// P1.1
func TestSumExamples(t *testing.T) {
	for data, want := range map[string]string{
		"":    "a7ffc6f8bf1ed76651c14756a061d662f580ff4de43b49fa82d80a4b80f8434a",
		"abc": "3a985da74fe225b2045c172d6bd390bd855f086e3e9d525b46bfe24511431532",
	} {
		if got := hex.EncodeToString([]byte(digest.Sum(data))); got != want {
			t.Errorf("%q: %s", data, got)
		}
	}
}

// P1.1: every length up to four blocks, so that each place of the padding occurs.
func TestSumLengths(t *testing.T) {
	for n := range 4*136 + 3 {
		data := sample(n)
		if digest.Sum(data) != reference(data) {
			t.Error("length", n)
		}
	}
}

// P1.1: all bytes, and strings that are long.
func TestSumContents(t *testing.T) {
	for b := range 256 {
		data := strings.Repeat(string([]byte{byte(b)}), 137)
		if digest.Sum(data) != reference(data) {
			t.Error("byte", b)
		}
	}
	for _, n := range []int{136 * 100, 136*100 - 1, 136*100 + 1, api.MaxData} {
		data := sample(n)
		if digest.Sum(data) != reference(data) {
			t.Error("length", n)
		}
	}
}

// P1.2
func TestHashEmpty(t *testing.T) {
	h := digest.New()
	if h.Sum() != reference("") || h.Clone().Sum() != reference("") {
		t.Error("a new hash is not empty")
	}
	if h.Write() != 0 || h.Write("") != 0 || h.Write("", "", "") != 0 || h.Sum() != reference("") {
		t.Error("writing nothing changes the hash")
	}
	if h == digest.New() {
		t.Error("two hashes are one")
	}
}

// P1.2: Write counts from New on, and Sum leaves the hash as it is.
func TestHashContinues(t *testing.T) {
	data := sample(500)
	h := digest.New()
	at := 0
	for _, n := range []int{0, 1, 134, 1, 1, 135, 136, 0, 92} {
		if got := h.Write(data[at : at+n]); got != at+n {
			t.Error("taken in", got, "instead of", at+n)
		}
		at += n
		for range 2 {
			if h.Sum() != reference(data[:at]) {
				t.Error("digest behind", at)
			}
		}
	}
	if at != 500 {
		t.Error("not all was written", at)
	}
}

// P1.2: several strings in one call stand one behind the other.
func TestHashVariadic(t *testing.T) {
	h := digest.New()
	if n := h.Write("ab", "", "c"); n != 3 || h.Sum() != reference("abc") {
		t.Error(n)
	}
	if n := h.Write(sample(136), "x", sample(300)); n != 440 || h.Sum() != reference("abc"+sample(136)+"x"+sample(300)) {
		t.Error(n)
	}
	parts := []string{"ab", "c"}
	digest.New().Write(parts...)
	if parts[0] != "ab" || parts[1] != "c" {
		t.Error("an argument was changed")
	}
}

// P1.2: neither the copy nor the original sees what the other one takes in.
func TestHashClone(t *testing.T) {
	for _, n := range []int{0, 1, 135, 136, 137, 272} {
		data := sample(n)
		h := digest.New()
		h.Write(data)
		c := h.Clone()
		if got := h.Write("left"); got != n+4 {
			t.Error("original", got)
		}
		if c.Sum() != reference(data) {
			t.Error("the copy changes with the original", n)
		}
		if got := c.Write("on the right"); got != n+12 {
			t.Error("copy", got)
		}
		if h.Sum() != reference(data+"left") || c.Sum() != reference(data+"on the right") {
			t.Error("not independent", n)
		}
	}
}

// P1.3
func TestHexAndParse(t *testing.T) {
	for i := range 100 {
		d := reference(strconv.Itoa(i))
		want := hex.EncodeToString([]byte(d))
		text, e := digest.Hex(d)
		if text != want || e != api.OK {
			t.Error(i, text, e)
		}
		back, e := digest.Parse(text)
		if back != d || e != api.OK {
			t.Error(i, back, e)
		}
	}
}

// P1.3: each byte in each place, the higher half first.
func TestHexBytes(t *testing.T) {
	for at := range 32 {
		for b := range 256 {
			data := make([]byte, 32)
			data[at] = byte(b)
			want := strings.Repeat("00", at) + hex.EncodeToString([]byte{byte(b)}) + strings.Repeat("00", 31-at)
			text, e := digest.Hex(string(data))
			if text != want || e != api.OK {
				t.Fatal(at, b, text, e)
			}
			if back, e := digest.Parse(want); back != string(data) || e != api.OK {
				t.Fatal(at, b, e)
			}
		}
	}
}

// P1.3: only strings with 32 bytes have a text.
func TestHexInvalid(t *testing.T) {
	for n := range 200 {
		text, e := digest.Hex(sample(n))
		if n == 32 {
			if len(text) != 64 || e != api.OK {
				t.Error(n, text, e)
			}
		} else if text != "" || e != api.ErrArg {
			t.Error(n, text, e)
		}
	}
}

// P1.3: each byte but 0 to 9 and a to f is refused, in each place.
func TestParseInvalid(t *testing.T) {
	for n := range 200 {
		d, e := digest.Parse(strings.Repeat("7", n))
		if n == 64 {
			if d != strings.Repeat("w", 32) || e != api.OK {
				t.Error(n, d, e)
			}
		} else if d != "" || e != api.ErrSyntax {
			t.Error(n, d, e)
		}
	}
	for at := range 64 {
		for b := range 256 {
			text := []byte(strings.Repeat("7", 64))
			text[at] = byte(b)
			d, e := digest.Parse(string(text))
			if strings.IndexByte("0123456789abcdef", byte(b)) >= 0 {
				if e != api.OK || len(d) != 32 {
					t.Fatal(at, b, e)
				}
			} else if d != "" || e != api.ErrSyntax {
				t.Fatal(at, b, d, e)
			}
		}
	}
}

// P1.4: states that differ in one or two bits have different images.
func TestPermuteInjective(t *testing.T) {
	for _, start := range [][25]uint64{{}, digest.Permute([25]uint64{})} {
		images := map[[25]uint64]bool{digest.Permute(start): true}
		for bit := range 1600 {
			s := start
			s[bit/64] ^= 1 << (bit % 64)
			images[digest.Permute(s)] = true
			s[(bit/64+5)%25] ^= 1 << (bit % 64)
			images[digest.Permute(s)] = true
		}
		if len(images) != 1+2*1600 {
			t.Error("images", len(images))
		}
	}
}

// P1.4: a state can be computed from its image, so that no two states have the same one.
func TestPermuteInvertible(t *testing.T) {
	s := [25]uint64{}
	for i := range 200 {
		image := digest.Permute(s)
		if invert(image) != s {
			t.Fatal("state", i)
		}
		// From one image to the next, with states of few bits in between.
		s = image
		if i%3 == 0 {
			s = [25]uint64{}
			s[i%25] = 1 << (i % 64)
		}
	}
}

// invert goes back through the rounds. The columns are mixed with a period of 192, rows are combined with a period of 4.
func invert(a [25]uint64) [25]uint64 {
	constants := [24]uint64{
		0x0000000000000001, 0x0000000000008082, 0x800000000000808a, 0x8000000080008000, 0x000000000000808b, 0x0000000080000001,
		0x8000000080008081, 0x8000000000008009, 0x000000000000008a, 0x0000000000000088, 0x0000000080008009, 0x000000008000000a,
		0x000000008000808b, 0x800000000000008b, 0x8000000000008089, 0x8000000000008003, 0x8000000000008002, 0x8000000000000080,
		0x000000000000800a, 0x800000008000000a, 0x8000000080008081, 0x8000000000008080, 0x0000000080000001, 0x8000000080008008,
	}
	for i := range 24 {
		a[0] ^= constants[23-i]
		for range 3 {
			a = combine(a)
		}
		a = rotateBack(a)
		for range 191 {
			a = mix(a)
		}
	}
	return a
}

func combine(b [25]uint64) [25]uint64 {
	a := b
	for i := range a {
		row := i / 5 * 5
		a[i] ^= ^b[row+(i+1)%5] & b[row+(i+2)%5]
	}
	return a
}

func mix(b [25]uint64) [25]uint64 {
	a := b
	for i := range a {
		for y := 0; y < 25; y += 5 {
			a[i] ^= b[(i+4)%5+y] ^ bits.RotateLeft64(b[(i+1)%5+y], 1)
		}
	}
	return a
}

// rotateBack uses that the rotations of a state are the triangular numbers, along the way on which its words wander.
func rotateBack(b [25]uint64) [25]uint64 {
	a := [25]uint64{b[0]}
	x, y := 1, 0
	for i := range 24 {
		next := y + 5*((2*x+3*y)%5)
		a[x+5*y] = bits.RotateLeft64(b[next], -(i+1)*(i+2)/2)
		x, y = next%5, next/5
	}
	return a
}

// P1.4: an argument that is an array stays as it was.
func TestPermuteArgument(t *testing.T) {
	s := [25]uint64{1, 2, 3}
	first := digest.Permute(s)
	if s != [25]uint64{1, 2, 3} || digest.Permute(s) != first {
		t.Error("the argument was changed")
	}
}

// P1.4: every division into two strings, in one call and in two.
func TestHashDivision(t *testing.T) {
	data := sample(300)
	want := reference(data)
	for n := range len(data) + 1 {
		one, two := digest.New(), digest.New()
		one.Write(data[:n], data[n:])
		two.Write(data[:n])
		two.Write(data[n:])
		if one.Sum() != want || two.Sum() != want {
			t.Error("divided at", n)
		}
	}
	bytewise := digest.New()
	for i := range len(data) {
		bytewise.Write(data[i : i+1])
	}
	if bytewise.Sum() != want {
		t.Error("byte by byte")
	}
}
