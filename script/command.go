package script

import (
	"strconv"
	"strings"

	"daybook/api"
	"daybook/dump"
)

// blank stands between each two words of a line.
const blank = " "

// Line is a command as a line.
func Line(c api.Command) (string, api.Errno) {
	f, ok := formOf(c.Verb)
	if !ok || !f.hasNumbers(len(c.Nums)) {
		return "", api.ErrLine
	}
	if !f.hasParts(c) {
		return "", api.ErrField
	}
	words := []string{f.verb}
	for _, n := range c.Nums {
		words = append(words, strconv.Itoa(n))
	}
	switch f.verb {
	case verbAppend:
		event, bad := dump.Words(c.Nums[0], c.Event)
		if bad != api.OK {
			return "", bad
		}
		words = append(words, event)
	case verbPut:
		if len(c.Raw) == 0 {
			return "", api.ErrWord
		}
		words = append(words, dump.Hex(c.Raw))
	}
	return strings.Join(words, blank), api.OK
}

// Command reads a line.
//
// The words are counted ahead of being taken apart: of a line of any length no more are kept than a verb may have.
func Command(line string) (api.Command, api.Errno) {
	verb, rest, _ := strings.Cut(line, blank)
	f, ok := formOf(verb)
	if !ok || !f.hasWords(strings.Count(line, blank)) {
		return api.Command{}, api.ErrLine
	}
	switch f.verb {
	case verbAppend:
		return readAppend(rest)
	case verbPut:
		return readPut(rest)
	}
	return readNumbers(f.verb, strings.Split(line, blank)[1:])
}

// readAppend reads what stands behind append: a version, and an event of it.
func readAppend(rest string) (api.Command, api.Errno) {
	version, words, _ := strings.Cut(rest, blank)
	v, bad := dump.Number(version)
	if bad != api.OK {
		return api.Command{}, bad
	}
	e, bad := dump.Event(v, words)
	if bad != api.OK {
		return api.Command{}, bad
	}
	return api.Command{Verb: verbAppend, Nums: []int{v}, Event: e}, api.OK
}

// readPut reads the word that stands behind put.
func readPut(word string) (api.Command, api.Errno) {
	raw, bad := dump.Unhex(word)
	if bad != api.OK || len(raw) == 0 {
		return api.Command{}, api.ErrWord
	}
	return api.Command{Verb: verbPut, Raw: raw}, api.OK
}

// readNumbers reads the words behind any other verb.
func readNumbers(verb string, words []string) (api.Command, api.Errno) {
	var nums []int
	for _, word := range words {
		n, bad := dump.Number(word)
		if bad != api.OK {
			return api.Command{}, bad
		}
		nums = append(nums, n)
	}
	return api.Command{Verb: verb, Nums: nums}, api.OK
}
