package dump

import (
	"strconv"
	"strings"

	"daybook/api"
)

// lineEnd stands behind each line of a text.
const lineEnd = "\n"

// Line is a record as a line.
func Line(r api.Record) (string, api.Errno) {
	if !rightSeq(r.Seq) {
		return "", api.ErrArg
	}
	words, bad := Words(api.Versions, r.Event)
	if bad != api.OK {
		return "", bad
	}
	return strconv.Itoa(r.Seq) + " " + words, api.OK
}

func rightSeq(n int) bool { return n >= 1 && n <= api.MaxSeq }

// Record reads a line.
func Record(line string) (api.Record, api.Errno) {
	number, words, ok := strings.Cut(line, " ")
	if !ok {
		return api.Record{}, api.ErrLine
	}
	seq, bad := Number(number)
	if bad != api.OK {
		return api.Record{}, bad
	}
	if !rightSeq(seq) {
		return api.Record{}, api.ErrArg
	}
	e, bad := Event(api.Versions, words)
	if bad != api.OK {
		return api.Record{}, bad
	}
	return api.Record{Seq: seq, Event: e}, api.OK
}

// Text is records as lines, each ended.
func Text(rs []api.Record) (string, api.Errno) {
	var text strings.Builder
	for _, r := range rs {
		line, bad := Line(r)
		if bad != api.OK {
			return "", bad
		}
		text.WriteString(line + lineEnd)
	}
	return text.String(), api.OK
}

// Read reads lines; the number is that of the line that is refused.
func Read(s string) ([]api.Record, int, api.Errno) {
	var rs []api.Record
	for n := 1; s != ""; n++ {
		line, rest, ended := strings.Cut(s, lineEnd)
		if !ended {
			return nil, n, api.ErrShort
		}
		r, bad := Record(line)
		if bad != api.OK {
			return nil, n, bad
		}
		rs = append(rs, r)
		s = rest
	}
	return rs, 0, api.OK
}
