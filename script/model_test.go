package script_test

import (
	"fmt"
	"math"
	"math/rand"
	"reflect"
	"slices"
	"strings"

	"daybook/api"
	"daybook/dump"
	"daybook/schema"
)

// The model: the language by the letter of the chapter, over lists of words.

var allVerbs = strings.Fields("append audit close compact crash disk err fuse list load open orders put replay rotate snapshot sync view")

// numbersOf is how many numbers a verb has at least and at most; nothing has -1.
func numbersOf(verb string) (int, int) {
	switch verb {
	case "sync", "rotate", "snapshot", "compact", "close", "list", "audit", "view", "err", "orders", "put":
		return 0, 0
	case "disk", "load", "replay", "fuse", "append":
		return 1, 1
	case "open":
		return 2, 2
	case "crash":
		return 0, 64
	}
	return -1, -1
}

func modelLine(c api.Command) (string, api.Errno) {
	least, most := numbersOf(c.Verb)
	if len(c.Nums) < least || len(c.Nums) > most {
		return "", api.ErrLine
	}
	if c.Verb != "append" && !reflect.DeepEqual(c.Event, api.Event{}) {
		return "", api.ErrField
	}
	if c.Verb != "put" && len(c.Raw) > 0 {
		return "", api.ErrField
	}
	line := c.Verb
	for _, n := range c.Nums {
		line += fmt.Sprintf(" %d", n)
	}
	if c.Verb == "append" {
		words, bad := dump.Words(c.Nums[0], c.Event)
		if bad != api.OK {
			return "", bad
		}
		line += " " + words
	}
	if c.Verb == "put" {
		if len(c.Raw) == 0 {
			return "", api.ErrWord
		}
		line += fmt.Sprintf(" %x", c.Raw)
	}
	return line, api.OK
}

func modelCommand(line string) (api.Command, api.Errno) {
	words := strings.Split(line, " ")
	verb, words := words[0], words[1:]
	least, most := numbersOf(verb)
	switch verb {
	case "append":
		least, most = 2, math.MaxInt
	case "put":
		least, most = 1, 1
	}
	if len(words) < least || len(words) > most {
		return api.Command{}, api.ErrLine
	}
	c := api.Command{Verb: verb}
	switch verb {
	case "append":
		v, bad := dump.Number(words[0])
		if bad != api.OK {
			return api.Command{}, bad
		}
		c.Nums = []int{v}
		if c.Event, bad = dump.Event(v, strings.Join(words[1:], " ")); bad != api.OK {
			return api.Command{}, bad
		}
	case "put":
		raw, bad := dump.Unhex(words[0])
		if bad != api.OK || len(raw) == 0 {
			return api.Command{}, api.ErrWord
		}
		c.Raw = raw
	default:
		for _, word := range words {
			n, bad := dump.Number(word)
			if bad != api.OK {
				return api.Command{}, bad
			}
			c.Nums = append(c.Nums, n)
		}
	}
	return c, api.OK
}

func modelParse(text string) ([]api.Command, int, api.Errno) {
	if len(text) > 65536 {
		return nil, 0, api.ErrLines
	}
	pieces := strings.SplitAfter(text, "\n")
	if pieces[len(pieces)-1] == "" {
		pieces = pieces[:len(pieces)-1]
	}
	var cs []api.Command
	for i, piece := range pieces {
		line := strings.TrimSuffix(piece, "\n")
		c, bad := modelCommand(line)
		switch {
		case i == 400:
			return nil, 401, api.ErrLines
		case line == piece:
			return nil, i + 1, api.ErrShort
		case bad != api.OK:
			return nil, i + 1, bad
		}
		cs = append(cs, c)
	}
	return cs, 0, api.OK
}

func modelPrint(cs []api.Command) (string, int, api.Errno) {
	text := ""
	for i, c := range cs {
		if i == 400 {
			return "", 401, api.ErrLines
		}
		line, bad := modelLine(c)
		if bad != api.OK {
			return "", i + 1, bad
		}
		if text += line + "\n"; len(text) > 65536 {
			return "", i + 1, api.ErrLines
		}
	}
	return text, 0, api.OK
}

// same holds two commands against each other; nil and empty are one.
func same(a, b api.Command) bool {
	return a.Verb == b.Verb && slices.Equal(a.Nums, b.Nums) && a.Event == b.Event && slices.Equal(a.Raw, b.Raw)
}

func sameAll(a, b []api.Command) bool { return slices.EqualFunc(a, b, same) }

// isZero tells whether a command is what stands beside an error.
func isZero(c api.Command) bool { return same(c, api.Command{}) }

// someNumber is any number, a small one as often as not.
func someNumber(r *rand.Rand) int {
	switch r.Intn(4) {
	case 0:
		return []int{0, -1, math.MinInt, math.MaxInt, 1 << 40, 64, 512, 65536}[r.Intn(8)]
	case 1:
		return int(r.Uint64())
	}
	return r.Intn(100)
}

// someCommand is a right command.
func someCommand(r *rand.Rand) api.Command {
	c := api.Command{Verb: allVerbs[r.Intn(len(allVerbs))]}
	switch c.Verb {
	case "append":
		v := 1 + r.Intn(5)
		kinds := schema.Kinds(v)
		c.Nums = []int{v}
		c.Event = api.Event{Kind: kinds[r.Intn(len(kinds))], Order: 1 + r.Intn(9), Item: r.Intn(3), Qty: r.Intn(3), Price: r.Intn(3)}
		if v > 3 && r.Intn(2) == 0 {
			c.Event.Who = "ann"
		}
		if v > 4 && r.Intn(2) == 0 {
			c.Event.Note = string([]byte{byte(r.Intn(256)), '\n', ' '})
		}
	case "put":
		c.Raw = make([]byte, 1+r.Intn(9))
		r.Read(c.Raw)
	default:
		least, most := numbersOf(c.Verb)
		for range least + r.Intn(most-least+1) {
			c.Nums = append(c.Nums, someNumber(r))
		}
	}
	return c
}

// anyCommand is a command in which something may be wrong.
func anyCommand(r *rand.Rand) api.Command {
	c := someCommand(r)
	for range r.Intn(3) {
		switch r.Intn(8) {
		case 0:
			c.Verb = append(allVerbs, "", "Sync", "sync ", "x", "open 4", "sync\n")[r.Intn(24)]
		case 1:
			c.Nums = append(c.Nums, someNumber(r))
		case 2:
			c.Nums = make([]int, r.Intn(67))
		case 3:
			c.Nums = nil
		case 4:
			c.Event = api.Event{}
		case 5:
			c.Event.Order = []int{0, -1, 5, 1<<40 + 1}[r.Intn(4)]
		case 6:
			c.Raw = nil
		case 7:
			c.Raw = []byte{5, 2, 1, 4, 7}
		}
	}
	return c
}

// spoilt is a text with something changed.
func spoilt(r *rand.Rand, s string) string {
	at := r.Intn(len(s) + 1)
	to := min(len(s), at+r.Intn(4))
	pieces := []string{" ", "  ", "\n", "\n\n", "0", "1", "-", "a", "A", "=", " 7", "sync\n", "crash", "put ", "append 5 place", "\x00", "\xff", "é", ""}
	switch r.Intn(3) {
	case 0:
		return s[:at] + s[to:]
	case 1:
		return s[:at]
	}
	return s[:at] + pieces[r.Intn(len(pieces))] + s[at:]
}
