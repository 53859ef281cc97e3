package disposal

import (
	"cmp"
	"strconv"
	"strings"

	"archivum/api"
	"archivum/digest"
	"archivum/list"
	"archivum/number"
)

// Chain returns the index of the first certificate of a chain that is wrong.
func Chain(l []api.Certificate) (int, api.Errno) {
	return list.Check(l, api.MaxList, checkLink)
}

// checkLink checks the certificate that follows the others of a chain.
func checkLink(before []api.Certificate, c api.Certificate) api.Errno {
	d, e := Digest(c)
	if e != api.OK || c.Digest != d || c.Number != len(before)+1 || c.Before != endOf(before) {
		return api.ErrProof
	}
	return api.OK
}

// endOf returns what is Before in the certificate that follows some others.
func endOf(l []api.Certificate) string {
	if len(l) == 0 {
		return strings.Repeat("\x00", api.DigestSize)
	}
	return l[len(l)-1].Digest
}

// Digest returns the digest of a certificate.
func Digest(c api.Certificate) (string, api.Errno) {
	if !hasDigest(c) {
		return "", api.ErrArg
	}
	words := []string{
		"certificate", strconv.Itoa(c.Number),
		"proposal", strconv.Itoa(c.Proposal),
		"day", strconv.Itoa(c.Day),
		"files",
	}
	for _, id := range c.Files {
		words = append(words, strconv.Itoa(id))
	}
	return digest.Sum(strings.Join(words, " ") + "\n" + c.Before), api.OK
}

func hasDigest(c api.Certificate) bool {
	last := len(c.Files) - 1
	return number.IsID(c.Number) && number.IsID(c.Proposal) && number.IsDay(c.Day) &&
		number.From(last+1, 1, api.MaxFiles) && list.Increase(c.Files, cmp.Compare) && c.Files[0] >= 1 && c.Files[last] <= api.MaxID &&
		len(c.Before) == api.DigestSize
}
