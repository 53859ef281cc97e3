package disposal_test

import (
	"fmt"
	"math"
	"slices"
	"strings"
	"testing"

	"archivum/api"
	"archivum/digest"
	"archivum/disposal"
)

// textOf returns the text that belongs to the digest of a certificate.
func textOf(c api.Certificate) string {
	return fmt.Sprintf("certificate %d proposal %d day %d files %s\n%s", c.Number, c.Proposal, c.Day, strings.Trim(fmt.Sprint(c.Files), "[]"), c.Before)
}

// chain returns certificates with the numbers and digests of a chain.
func chain(l ...api.Certificate) []api.Certificate {
	linked := slices.Clone(l)
	before := strings.Repeat("\x00", 32)
	for i := range linked {
		linked[i].Number, linked[i].Before = i+1, before
		linked[i].Digest = digest.Sum(textOf(linked[i]))
		before = linked[i].Digest
	}
	return linked
}

// isValid returns whether the digest of a certificate exists.
func isValid(c api.Certificate) bool {
	ok := c.Number >= 1 && c.Number <= 1<<30 && c.Proposal >= 1 && c.Proposal <= 1<<30 && c.Day >= 0 && c.Day < 1<<20 && len(c.Files) > 0 && len(c.Files) <= 256 && len(c.Before) == 32
	last := 0
	for _, id := range c.Files {
		ok = ok && id > last && id <= 1<<30
		last = id
	}
	return ok
}

// wrongLink is the index of the first certificate up to which a chain is not right, or -1.
func wrongLink(l []api.Certificate) int {
	before := strings.Repeat("\x00", 32)
	for i, c := range l {
		if c.Number != i+1 || !isValid(c) || c.Digest != digest.Sum(textOf(c)) || c.Before != before {
			return i
		}
		before = c.Digest
	}
	return -1
}

func theCertificate() api.Certificate {
	return api.Certificate{Number: 2, Proposal: 7, Day: 40, Files: []int{3, 5, 11}, Before: strings.Repeat("b", 32)}
}

func increasing(n int) []int {
	l := make([]int, n)
	for i := range l {
		l[i] = i + 1
	}
	return l
}

// P14.1: the digest of certificates, at the limits of their fields, and what has no digest.
func TestDigest(t *testing.T) {
	for i, x := range []struct {
		change func(c *api.Certificate)
		ok     bool
	}{
		{func(c *api.Certificate) {}, true},
		{func(c *api.Certificate) { c.Digest = "?" }, true},
		{func(c *api.Certificate) { c.Number = 0 }, false},
		{func(c *api.Certificate) { c.Number = 1 }, true},
		{func(c *api.Certificate) { c.Number = api.MaxID }, true},
		{func(c *api.Certificate) { c.Number = api.MaxID + 1 }, false},
		{func(c *api.Certificate) { c.Number = math.MinInt }, false},
		{func(c *api.Certificate) { c.Proposal = 0 }, false},
		{func(c *api.Certificate) { c.Proposal = 1 }, true},
		{func(c *api.Certificate) { c.Proposal = api.MaxID }, true},
		{func(c *api.Certificate) { c.Proposal = api.MaxID + 1 }, false},
		{func(c *api.Certificate) { c.Day = -1 }, false},
		{func(c *api.Certificate) { c.Day = 0 }, true},
		{func(c *api.Certificate) { c.Day = api.MaxDay }, true},
		{func(c *api.Certificate) { c.Day = api.Forever }, false},
		{func(c *api.Certificate) { c.Files = nil }, false},
		{func(c *api.Certificate) { c.Files = []int{1} }, true},
		{func(c *api.Certificate) { c.Files = []int{0} }, false},
		{func(c *api.Certificate) { c.Files = []int{-3, 5} }, false},
		{func(c *api.Certificate) { c.Files = []int{api.MaxID} }, true},
		{func(c *api.Certificate) { c.Files = []int{5, api.MaxID + 1} }, false},
		{func(c *api.Certificate) { c.Files = []int{5, 5} }, false},
		{func(c *api.Certificate) { c.Files = []int{5, 4} }, false},
		{func(c *api.Certificate) { c.Files = []int{5, 7, 6} }, false},
		{func(c *api.Certificate) { c.Files = increasing(256) }, true},
		{func(c *api.Certificate) { c.Files = increasing(257) }, false},
		{func(c *api.Certificate) { c.Before = "" }, false},
		{func(c *api.Certificate) { c.Before = strings.Repeat("\n", 32) }, true},
		{func(c *api.Certificate) { c.Before = strings.Repeat("b", 31) }, false},
		{func(c *api.Certificate) { c.Before = strings.Repeat("b", 33) }, false},
		{func(c *api.Certificate) { *c = api.Certificate{} }, false},
	} {
		c := theCertificate()
		x.change(&c)
		want, e := digest.Sum(textOf(c)), api.OK
		if !x.ok {
			want, e = "", api.ErrArg
		}
		if d, f := disposal.Digest(c); d != want || f != e || isValid(c) != x.ok {
			t.Error(i, d, f)
		}
	}
	d, e := disposal.Digest(theCertificate())
	if e != api.OK || d != digest.Sum("certificate 2 proposal 7 day 40 files 3 5 11\n"+strings.Repeat("b", 32)) {
		t.Error(d, e)
	}
}

// someChain returns a right chain.
func someChain(n int) []api.Certificate {
	var l []api.Certificate
	for i := range n {
		l = append(l, api.Certificate{Proposal: 3 + i%5, Day: 10 * i % 90, Files: []int{1 + i%4, 9 + i}})
	}
	return chain(l...)
}

// P14.1: chains that are right, and as long as they can be.
func TestChain(t *testing.T) {
	for _, n := range []int{0, 1, 2, 3, 10, 1023, 1024} {
		if i, e := disposal.Chain(someChain(n)); i != -1 || e != api.OK {
			t.Error(n, i, e)
		}
	}
	for _, l := range [][]api.Certificate{someChain(1025), make([]api.Certificate, 1025)} {
		if i, e := disposal.Chain(l); i != -1 || e != api.ErrTooLarge {
			t.Error(i, e)
		}
	}
}

// P14.1: certificates that are left out, repeated or interchanged are noticed at the first wrong place.
func TestChainOrder(t *testing.T) {
	l := someChain(6)
	for i := range l {
		for k := range l {
			m := slices.Clone(l)
			m[i], m[k] = m[k], m[i]
			got, e := disposal.Chain(m)
			if i != k && (got != min(i, k) || e != api.ErrProof) || i == k && (got != -1 || e != api.OK) {
				t.Error(i, k, got, e)
			}
		}
		want := i
		if i == len(l)-1 {
			want = -1
		}
		if got, e := disposal.Chain(slices.Delete(slices.Clone(l), i, i+1)); got != want || (e == api.OK) != (want < 0) {
			t.Error(i, got, e)
		}
		if got, e := disposal.Chain(slices.Insert(slices.Clone(l), i, l[i])); got != i+1 || e != api.ErrProof {
			t.Error(i, got, e)
		}
	}
}

// P14.1, P14.4: a change of any field is noticed at its certificate, or, with its digest made anew, at the next one.
func TestChainChanges(t *testing.T) {
	for i, change := range []func(c *api.Certificate){
		func(c *api.Certificate) { c.Number++ },
		func(c *api.Certificate) { c.Number = 0 },
		func(c *api.Certificate) { c.Proposal++ },
		func(c *api.Certificate) { c.Proposal = -1 },
		func(c *api.Certificate) { c.Day++ },
		func(c *api.Certificate) { c.Day = math.MaxInt },
		func(c *api.Certificate) { c.Files = c.Files[:1] },
		func(c *api.Certificate) { c.Files = append(slices.Clone(c.Files), 1000) },
		func(c *api.Certificate) { c.Files = nil },
		func(c *api.Certificate) { c.Files = []int{c.Files[1], c.Files[0]} },
		func(c *api.Certificate) { c.Before = "x" + c.Before[1:] },
		func(c *api.Certificate) { c.Before = c.Before[1:] },
		func(c *api.Certificate) { c.Digest = c.Digest[:31] + "x" },
		func(c *api.Certificate) { c.Digest = "" },
	} {
		for k := range 5 {
			l := someChain(5)
			old := l[k].Digest
			change(&l[k])
			if got, e := disposal.Chain(l); got != k || e != api.ErrProof || wrongLink(l) != k {
				t.Error(i, k, got, e)
			}
			l[k].Digest = digest.Sum(textOf(l[k]))
			want := wrongLink(l)
			if got, e := disposal.Chain(l); got != want || (e == api.OK) != (want < 0) || want < 0 && k < 4 && old != l[k].Digest {
				t.Error(i, k, got, e)
			}
		}
	}
}
