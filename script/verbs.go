package script

import (
	"daybook/api"
)

// form is what stands behind a verb.
type form struct {
	verb        string
	least, most int // of its numbers
}

// The verbs behind which there stands something else than numbers.
const (
	verbAppend = "append"
	verbPut    = "put"
)

// forms is those of all verbs, sorted.
var forms = [...]form{
	{verbAppend, 1, 1},
	{"audit", 0, 0},
	{"close", 0, 0},
	{"compact", 0, 0},
	{"crash", 0, MaxKeep},
	{"disk", 1, 1},
	{"err", 0, 0},
	{"fuse", 1, 1},
	{"list", 0, 0},
	{"load", 1, 1},
	{"open", 2, 2},
	{"orders", 0, 0},
	{verbPut, 0, 0},
	{"replay", 1, 1},
	{"rotate", 0, 0},
	{"snapshot", 0, 0},
	{"sync", 0, 0},
	{"view", 0, 0},
}

// Verbs is the verbs, sorted.
func Verbs() []string {
	verbs := make([]string, 0, len(forms))
	for _, f := range forms {
		verbs = append(verbs, f.verb)
	}
	return verbs
}

// formOf is the form of a verb; a false, if it is none.
func formOf(verb string) (form, bool) {
	for _, f := range forms {
		if f.verb == verb {
			return f, true
		}
	}
	return form{}, false
}

// hasNumbers tells whether a command of the form may have so many numbers.
func (f form) hasNumbers(count int) bool { return count >= f.least && count <= f.most }

// hasWords tells whether so many words may stand behind the verb in a line.
func (f form) hasWords(count int) bool {
	switch f.verb {
	case verbAppend:
		return count >= 2 // the version, and the event's kind
	case verbPut:
		return count == 1
	}
	return f.hasNumbers(count)
}

// hasParts tells whether the command is empty where its form has nothing.
func (f form) hasParts(c api.Command) bool {
	event := f.verb == verbAppend || c.Event == api.Event{}
	raw := f.verb == verbPut || len(c.Raw) == 0
	return event && raw
}
