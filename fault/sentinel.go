package fault

import (
	"errors"

	"daybook/api"
)

// The sentinels. Their texts are the numbers' words: no other place says them.
var (
	errArg     = errors.New("argument")
	errClosed  = errors.New("closed")
	errDown    = errors.New("power off")
	errCorrupt = errors.New("corrupt")

	errShort = errors.New("ends early")
	errLong  = errors.New("overlong")
	errWide  = errors.New("too wide")

	errTag   = errors.New("tag")
	errOrder = errors.New("order of tags")
	errZero  = errors.New("empty field")
	errText  = errors.New("long text")
	errBig   = errors.New("too big")

	errVersion = errors.New("version")
	errKind    = errors.New("kind")
	errField   = errors.New("field")
	errForm    = errors.New("form")

	errState = errors.New("state")

	errName   = errors.New("name")
	errNoFile = errors.New("no file")
	errExists = errors.New("exists")
	errFiles  = errors.New("files")
	errFull   = errors.New("disk full")

	errTorn  = errors.New("torn")
	errMark  = errors.New("mark")
	errSum   = errors.New("sum")
	errRange = errors.New("range")

	errIndex   = errors.New("index")
	errHeader  = errors.New("header")
	errSealed  = errors.New("sealed")
	errMissing = errors.New("missing")

	errManifest = errors.New("manifest")
	errBook     = errors.New("book")

	errSegs      = errors.New("segments")
	errNums      = errors.New("numbers")
	errSeq       = errors.New("sequence")
	errEmpty     = errors.New("empty")
	errNoSnap    = errors.New("no snapshot")
	errCompacted = errors.New("compacted")

	errLine  = errors.New("line")
	errWord  = errors.New("word")
	errLines = errors.New("lines")
	errOut   = errors.New("output")
)

// numbered is a sentinel with its number.
type numbered struct {
	number api.Errno
	err    error
}

// sentinels is all of them. Code leans on it that their numbers rise.
func sentinels() []numbered {
	return []numbered{
		{api.ErrArg, errArg},
		{api.ErrClosed, errClosed},
		{api.ErrDown, errDown},
		{api.ErrCorrupt, errCorrupt},
		{api.ErrShort, errShort},
		{api.ErrLong, errLong},
		{api.ErrWide, errWide},
		{api.ErrTag, errTag},
		{api.ErrOrder, errOrder},
		{api.ErrZero, errZero},
		{api.ErrText, errText},
		{api.ErrBig, errBig},
		{api.ErrVersion, errVersion},
		{api.ErrKind, errKind},
		{api.ErrField, errField},
		{api.ErrForm, errForm},
		{api.ErrState, errState},
		{api.ErrName, errName},
		{api.ErrNoFile, errNoFile},
		{api.ErrExists, errExists},
		{api.ErrFiles, errFiles},
		{api.ErrFull, errFull},
		{api.ErrTorn, errTorn},
		{api.ErrMark, errMark},
		{api.ErrSum, errSum},
		{api.ErrRange, errRange},
		{api.ErrIndex, errIndex},
		{api.ErrHeader, errHeader},
		{api.ErrSealed, errSealed},
		{api.ErrMissing, errMissing},
		{api.ErrManifest, errManifest},
		{api.ErrBook, errBook},
		{api.ErrSegs, errSegs},
		{api.ErrNums, errNums},
		{api.ErrSeq, errSeq},
		{api.ErrEmpty, errEmpty},
		{api.ErrNoSnap, errNoSnap},
		{api.ErrCompacted, errCompacted},
		{api.ErrLine, errLine},
		{api.ErrWord, errWord},
		{api.ErrLines, errLines},
		{api.ErrOut, errOut},
	}
}

// Name is the word for a number; "" for a number that is none.
func Name(e api.Errno) string {
	if e == api.OK {
		return "ok"
	}
	if s := Sentinel(e); s != nil {
		return s.Error()
	}
	return ""
}

// Sentinel is the one error value of a number; nil for OK and for a number that is none.
func Sentinel(e api.Errno) error {
	for _, s := range sentinels() {
		if s.number == e {
			return s.err
		}
	}
	return nil
}
