package dump

import (
	"strconv"
	"strings"

	"daybook/api"
	"daybook/schema"
)

// kinds is the words of the kinds, from Place on.
var kinds = [...]string{"place", "add", "pay", "ship", "cancel", "drop", "refund", "hold", "release", "clear"}

// keys is those of an event's fields, in the order in which they are written, but the last one: the note's.
var keys = [...]string{"order", "item", "qty", "price", "cur", "tax", keyWho, "stamp"}

// The keys of the fields that are texts.
const (
	keyWho  = "who"
	keyNote = "note"
)

// Words is an event of a version as words.
func Words(v int, e api.Event) (string, api.Errno) {
	if bad := schema.Check(v, e); bad != api.OK {
		return "", bad
	}
	words := []string{kinds[e.Kind-api.Place]}
	for _, key := range keys {
		if value := valueOf(&e, key); value != "" {
			words = append(words, pair(key, value))
		}
	}
	if e.Note != "" {
		words = append(words, pair(keyNote, Hex([]byte(e.Note))))
	}
	return strings.Join(words, " "), api.OK
}

// valueOf is what is written of a key's field; nothing of one that is zero.
func valueOf(e *api.Event, key string) string {
	if key == keyWho {
		return e.Who
	}
	if n := *numberOf(e, key); n != 0 {
		return strconv.Itoa(n)
	}
	return ""
}

// numberOf is where the number of a key stands in an event; the key is one of the list, and not that of a text.
func numberOf(e *api.Event, key string) *int {
	switch key {
	case "order":
		return &e.Order
	case "item":
		return &e.Item
	case "qty":
		return &e.Qty
	case "price":
		return &e.Price
	case "cur":
		return &e.Cur
	case "tax":
		return &e.Tax
	}
	return &e.Stamp
}

// Event reads the words of an event of a version.
func Event(v int, s string) (api.Event, api.Errno) {
	var e api.Event
	bad := read(&e, s)
	if bad == api.OK {
		bad = schema.Check(v, e)
	}
	if bad != api.OK {
		return api.Event{}, bad
	}
	return e, api.OK
}

// read takes a kind and fields out of words into a zero event.
//
// The words are cut off one by one: as the keys must rise, few are looked at, however many there are.
func read(e *api.Event, s string) api.Errno {
	word, rest, more := strings.Cut(s, " ")
	if e.Kind = kindOf(word); e.Kind == api.NoKind {
		return api.ErrLine
	}
	next := 0 // of the keys: those ahead of it can't come any more
words:
	for more {
		word, rest, more = strings.Cut(rest, " ")
		key, value, ok := strings.Cut(word, "=")
		if !ok {
			return api.ErrLine
		}
		if key == keyNote && !more {
			return readNote(e, value)
		}
		for next < len(keys) {
			next++
			if keys[next-1] != key {
				continue
			}
			if bad := readField(e, key, value); bad != api.OK {
				return bad
			}
			continue words
		}
		return api.ErrLine
	}
	return api.OK
}

// kindOf is the kind of a word; NoKind, if it is none's.
func kindOf(word string) api.Kind {
	for i, own := range kinds {
		if own == word {
			return api.Place + api.Kind(i)
		}
	}
	return api.NoKind
}

// readNote takes the note out of its value.
func readNote(e *api.Event, value string) api.Errno {
	b, bad := Unhex(value)
	if bad != api.OK || len(b) == 0 {
		return api.ErrWord
	}
	e.Note = string(b)
	return api.OK
}

// readField takes the field of one of the list's keys out of its value. A field that is zero isn't written, so none is read.
func readField(e *api.Event, key, value string) api.Errno {
	if key == keyWho {
		if value == "" {
			return api.ErrWord
		}
		e.Who = strings.Clone(value) // the event may stay longer than the text
		return api.OK
	}
	n, bad := Number(value)
	if bad != api.OK || n == 0 {
		return api.ErrWord
	}
	*numberOf(e, key) = n
	return api.OK
}
