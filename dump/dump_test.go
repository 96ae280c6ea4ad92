package dump_test

import (
	"bytes"
	"math"
	"math/rand"
	"slices"
	"strconv"
	"strings"
	"testing"

	"daybook/api"
	"daybook/canon"
	"daybook/dump"
	"daybook/order"
)

func TestP24_1Hex(t *testing.T) {
	for _, x := range []struct {
		b    string
		want string
	}{
		{"", ""}, {"\x00", "00"}, {"\x0a\xf0", "0af0"}, {"\xff", "ff"}, {"hi", "6869"}, {"\x01\x23\x45\x67\x89\xab\xcd\xef", "0123456789abcdef"}, {"\x10", "10"}, {"\n ", "0a20"},
	} {
		if got := dump.Hex([]byte(x.b)); got != x.want {
			t.Errorf("Hex(%x) = %q", x.b, got)
		}
		if got, bad := dump.Unhex(x.want); string(got) != x.b || bad != api.OK {
			t.Errorf("Unhex(%q) = %x, %d", x.want, got, bad)
		}
	}
	if got := dump.Hex(nil); got != "" {
		t.Errorf("Hex of nothing is %q", got)
	}
	for c := range 256 {
		want := strconv.FormatInt(256+int64(c), 16)[1:]
		if got := dump.Hex([]byte{byte(c)}); got != want {
			t.Errorf("Hex(%d) = %q, not %q", c, got, want)
		}
	}
}

// All texts of up to two bytes, and a few longer ones.
func TestP24_1Unhex(t *testing.T) {
	hold := func(s string) {
		t.Helper()
		got, bad := dump.Unhex(s)
		want, wanted := modelUnhex(s)
		if !bytes.Equal(got, want) || bad != wanted {
			t.Errorf("Unhex(%q) = %x, %d, not %x, %d", s, got, bad, want, wanted)
		}
		if bad == api.OK && dump.Hex(got) != s {
			t.Errorf("Hex of it is %q", dump.Hex(got))
		}
	}
	for a := range 256 {
		hold(string([]byte{byte(a)}))
		for b := range 256 {
			hold(string([]byte{byte(a), byte(b)}))
		}
	}
	for _, s := range []string{"", "0", "000", "0af", "0aF0", "0AF0", "0af0 ", " 0af", "0x0a", "0ag0", "g00a", "00\n", "é0", "00000000000g", strings.Repeat("5a", 5000), strings.Repeat("5a", 5000) + "5", strings.Repeat("5a", 5000) + "5 "} {
		hold(s)
	}
	if b, bad := dump.Unhex("0A"); len(b) != 0 || bad != api.ErrWord {
		t.Errorf("great letters: %x, %d", b, bad)
	}
	if b, bad := dump.Unhex("00zz"); len(b) != 0 || bad != api.ErrWord {
		t.Errorf("beside the error stand bytes: %x, %d", b, bad)
	}
}

func TestP24_2Number(t *testing.T) {
	for s, want := range map[string]int{
		"0": 0, "1": 1, "9": 9, "10": 10, "-1": -1, "-10": -10, "-907": -907, "100": 100, "1099511627776": 1 << 40,
		"9223372036854775807": math.MaxInt, "-9223372036854775808": math.MinInt, "-9223372036854775807": -math.MaxInt,
	} {
		if got, bad := dump.Number(s); got != want || bad != api.OK {
			t.Errorf("Number(%q) = %d, %d", s, got, bad)
		}
	}
	for _, s := range []string{
		"", "-", "+", "+1", "-0", "00", "01", "-01", "007", "--1", "1-", "1.0", "1e3", "0x1", "1_0", " 1", "1 ", "1\n", "a", "١", "½", "\x00", "1\x00",
		"9223372036854775808", "-9223372036854775809", "18446744073709551616", "18446744073709551617", "99999999999999999999", strings.Repeat("9", 5000), "0" + strings.Repeat("0", 5000) + "1",
	} {
		if got, bad := dump.Number(s); got != 0 || bad != api.ErrWord {
			t.Errorf("Number(%q) = %d, %d", s, got, bad)
		}
	}
	all := "0123456789-+_ ."
	for _, a := range all {
		for _, b := range all {
			for _, c := range all {
				for _, s := range []string{string(a), string([]rune{a, b}), string([]rune{a, b, c})} {
					got, bad := dump.Number(s)
					if want, wanted := modelNumber(s); got != want || bad != wanted {
						t.Errorf("Number(%q) = %d, %d", s, got, bad)
					}
				}
			}
		}
	}
}

func TestP24_3Words(t *testing.T) {
	all := api.Event{Kind: api.Ship, Order: 1, Item: 2, Qty: 3, Price: 4, Cur: 1, Tax: 6, Who: "w-1", Stamp: 8, Note: "\x00\xff=\n "}
	for _, x := range []struct {
		v    int
		e    api.Event
		want string
		bad  api.Errno
	}{
		{5, all, "ship order=1 item=2 qty=3 price=4 cur=1 tax=6 who=w-1 stamp=8 note=00ff3d0a20", api.OK},
		{5, api.Event{Kind: api.Add, Order: 7, Item: 3, Qty: 2, Price: 500, Who: "ann", Note: "hi"}, "add order=7 item=3 qty=2 price=500 who=ann note=6869", api.OK},
		{1, api.Event{Kind: api.Add, Order: 7, Qty: -2}, "add order=7 qty=-2", api.OK},
		{2, api.Event{Kind: api.Pay, Order: 7, Qty: -10000, Cur: 3}, "pay order=7 qty=-10000 cur=3", api.OK},
		{3, api.Event{Kind: api.Refund, Order: 1 << 40, Price: 100000000, Tax: 5000}, "refund order=1099511627776 price=100000000 tax=5000", api.OK},
		{4, api.Event{Kind: api.Release, Order: 1, Who: "-"}, "release order=1 who=-", api.OK},
		{5, api.Event{Kind: api.Clear, Order: 1, Stamp: 1 << 40}, "clear order=1 stamp=1099511627776", api.OK},
		{5, api.Event{Kind: api.Add, Order: 7, Qty: -2}, "", api.ErrField},
		{1, all, "", api.ErrField},
		{0, all, "", api.ErrVersion},
		{6, all, "", api.ErrVersion},
		{4, api.Event{Kind: api.Clear, Order: 1}, "", api.ErrKind},
		{5, api.Event{}, "", api.ErrKind},
		{5, api.Event{Kind: 11, Order: 1}, "", api.ErrKind},
		{5, api.Event{Kind: -1, Order: 1}, "", api.ErrKind},
		{5, api.Event{Kind: api.Place}, "", api.ErrField},
		{5, api.Event{Kind: api.Place, Order: 1, Who: "a b"}, "", api.ErrField},
		{5, api.Event{Kind: api.Place, Order: 1, Who: strings.Repeat("a", 17)}, "", api.ErrBig},
		{5, api.Event{Kind: api.Place, Order: 1, Note: strings.Repeat("a", 121)}, "", api.ErrBig},
		{5, api.Event{Kind: api.Place, Order: 1, Note: strings.Repeat("a", 120)}, "place order=1 note=" + strings.Repeat("61", 120), api.OK},
	} {
		if got, bad := dump.Words(x.v, x.e); got != x.want || bad != x.bad {
			t.Errorf("Words(%d, %v) = %q, %d, not %q, %d", x.v, x.e, got, bad, x.want, x.bad)
		}
	}
	for i, word := range allKinds {
		if got, bad := dump.Words(5, api.Event{Kind: api.Kind(1 + i), Order: 3}); got != word+" order=3" || bad != api.OK {
			t.Errorf("the kind %d: %q, %d", 1+i, got, bad)
		}
	}
	// Each field alone, beside the order.
	for _, x := range []struct {
		e    api.Event
		want string
	}{
		{api.Event{Item: 9}, "item=9"}, {api.Event{Qty: 9}, "qty=9"}, {api.Event{Price: 9}, "price=9"}, {api.Event{Cur: 2}, "cur=2"}, {api.Event{Tax: 9}, "tax=9"}, {api.Event{Who: "9"}, "who=9"}, {api.Event{Stamp: 9}, "stamp=9"}, {api.Event{Note: "9"}, "note=39"},
	} {
		x.e.Kind, x.e.Order = api.Hold, 5
		if got, bad := dump.Words(5, x.e); got != "hold order=5 "+x.want || bad != api.OK {
			t.Errorf("%v: %q, %d", x.e, got, bad)
		}
		if got, bad := dump.Event(5, "hold order=5 "+x.want); got != x.e || bad != api.OK {
			t.Errorf("%v: %v, %d", x.want, got, bad)
		}
	}
}

func TestP24_4Event(t *testing.T) {
	for _, x := range []struct {
		v   int
		s   string
		bad api.Errno
	}{
		// The chapter's examples.
		{5, "add item=3 order=7", api.ErrLine},
		{5, "add order=07", api.ErrWord},
		{5, "add order=7 ", api.ErrLine},
		{5, "", api.ErrLine},
		{1, "add order=7 qty=-2", api.OK},
		{5, "add order=7 qty=-2", api.ErrField},
		// The first word.
		{5, " ", api.ErrLine}, {5, " add order=7", api.ErrLine}, {5, "Add order=7", api.ErrLine}, {5, "adds order=7", api.ErrLine}, {5, "ad order=7", api.ErrLine},
		{5, "order=7", api.ErrLine}, {5, "add\torder=7", api.ErrLine}, {5, "2 order=7", api.ErrLine}, {5, "none order=7", api.ErrLine}, {5, "x order=07", api.ErrLine}, {9, "x", api.ErrLine},
		// Words without a key, and keys.
		{5, "add", api.ErrField}, {5, "add ", api.ErrLine}, {5, "add order", api.ErrLine}, {5, "add order 7", api.ErrLine}, {5, "add  order=7", api.ErrLine}, {5, "add order=7  item=3", api.ErrLine},
		{5, "add =7", api.ErrLine}, {5, "add order=7 =", api.ErrLine}, {5, "add Order=7", api.ErrLine}, {5, "add order=7 kind=2", api.ErrLine}, {5, "add order=7 orders=2", api.ErrLine}, {5, "add order=7 note", api.ErrLine},
		{5, "add order=7 order=7", api.ErrLine}, {5, "add order=7 item=1 order=7", api.ErrLine}, {5, "add order=7 stamp=1 who=a", api.ErrLine}, {5, "add order=7 who=a tax=1", api.ErrLine}, {5, "add order=7 who=a who=b", api.ErrLine},
		{5, "add order=7 stamp=1 stamp=1", api.ErrLine},
		// Values.
		{5, "add order=", api.ErrWord}, {5, "add order=0", api.ErrWord}, {5, "add order=-0", api.ErrWord}, {5, "add order=+7", api.ErrWord}, {5, "add order=7=7", api.ErrWord}, {5, "add order==7", api.ErrWord}, {5, "add order=x", api.ErrWord},
		{5, "add order=7 qty=0", api.ErrWord}, {5, "add order=7 who=", api.ErrWord}, {5, "add order=7 stamp=", api.ErrWord}, {5, "add order=7 stamp=0", api.ErrWord}, {5, "add order=9223372036854775808", api.ErrWord}, {5, "add order=7\n", api.ErrWord},
		{5, "add order=9223372036854775807", api.ErrField}, {5, "add order=-9223372036854775808", api.ErrField}, {5, "add order=-7", api.ErrField},
		{5, "add order=7 who=a=b", api.ErrField}, {5, "add order=7 who==", api.ErrField}, {5, "add order=7 who=A", api.ErrField}, {5, "add order=7 who=" + strings.Repeat("a", 17), api.ErrBig},
		// The note.
		{5, "add order=7 note=", api.ErrWord}, {5, "add order=7 note=6", api.ErrWord}, {5, "add order=7 note=6A", api.ErrWord}, {5, "add order=7 note=61=", api.ErrWord}, {5, "add order=7 note=x", api.ErrWord}, {5, "add order=7 note=61", api.OK},
		{5, "add order=7 note=61 stamp=1", api.ErrLine}, {5, "add order=7 note=x stamp=1", api.ErrLine}, {5, "add order=7 note=61 note=61", api.ErrLine}, {5, "add order=7 note=61 ", api.ErrLine}, {5, "add note=61", api.ErrField}, {5, "add note=6", api.ErrWord},
		{5, "add order=7 who=note note=61", api.OK}, {5, "add order=7 note=" + strings.Repeat("61", 120), api.OK}, {5, "add order=7 note=" + strings.Repeat("61", 121), api.ErrBig}, {4, "add order=7 note=61", api.ErrField},
		// The first of several.
		{5, "add item=x order=7", api.ErrWord}, {5, "add item=3 order=x", api.ErrLine}, {5, "add order=07 item", api.ErrWord}, {5, "add item order=07", api.ErrLine}, {5, "add order=7 qty=0 note=x", api.ErrWord}, {5, "add qty=-1 foo", api.ErrLine},
		{0, "add order=7", api.ErrVersion}, {6, "add order=7", api.ErrVersion}, {math.MinInt, "add order=7", api.ErrVersion}, {0, "add order=07", api.ErrWord}, {0, "add order", api.ErrLine},
		{2, "drop order=7", api.ErrKind}, {3, "hold order=7", api.ErrKind}, {4, "clear order=7", api.ErrKind}, {2, "drop order=-1 who=", api.ErrWord}, {1, "add order=7 cur=1", api.ErrField}, {2, "add order=7 cur=1", api.OK}, {2, "add order=7 cur=4", api.ErrField},
	} {
		got, bad := dump.Event(x.v, x.s)
		want, wanted := modelEvent(x.v, x.s)
		if bad != x.bad || got != want || bad != wanted {
			t.Errorf("Event(%d, %q) = %v, %d, not %d (the model: %v, %d)", x.v, x.s, got, bad, x.bad, want, wanted)
		}
	}
	e := api.Event{Kind: api.Refund, Order: 1, Item: 2, Qty: 3, Price: 4, Cur: 1, Tax: 6, Who: "7", Stamp: 8, Note: "\x09\x9f"}
	if got, bad := dump.Event(5, "refund order=1 item=2 qty=3 price=4 cur=1 tax=6 who=7 stamp=8 note=099f"); got != e || bad != api.OK {
		t.Errorf("of all fields: %v, %d", got, bad)
	}
}

// Each two keys one behind the other: only rising ones are taken.
func TestP24_4TheOrderOfKeys(t *testing.T) {
	value := map[string]string{"who": "=a", "note": "=61"}
	for i, a := range append(slices.Clone(allKeys), "note") {
		for j, b := range append(slices.Clone(allKeys), "note") {
			if value[a] == "" {
				value[a] = "=1"
			}
			if value[b] == "" {
				value[b] = "=1"
			}
			_, bad := dump.Event(5, "place "+a+value[a]+" "+b+value[b])
			want := api.ErrLine
			if i < j {
				want = api.ErrField // there is no order
				if i == 0 {
					want = api.OK
				}
			}
			if bad != want {
				t.Errorf("%s, %s: %d, not %d", a, b, bad, want)
			}
		}
	}
}

func TestP24_5Line(t *testing.T) {
	place := api.Event{Kind: api.Place, Order: 7}
	for _, x := range []struct {
		r    api.Record
		want string
		bad  api.Errno
	}{
		{api.Record{Seq: 12, Event: api.Event{Kind: api.Add, Order: 7, Item: 3, Qty: 2, Price: 500, Who: "ann", Note: "hi"}}, "12 add order=7 item=3 qty=2 price=500 who=ann note=6869", api.OK},
		{api.Record{Seq: 1, Event: place}, "1 place order=7", api.OK},
		{api.Record{Seq: 1 << 40, Event: place}, "1099511627776 place order=7", api.OK},
		{api.Record{Seq: 1<<40 + 1, Event: place}, "", api.ErrArg},
		{api.Record{Seq: 0, Event: place}, "", api.ErrArg},
		{api.Record{Seq: -1, Event: place}, "", api.ErrArg},
		{api.Record{Seq: math.MinInt, Event: place}, "", api.ErrArg},
		{api.Record{Seq: math.MaxInt, Event: place}, "", api.ErrArg},
		{api.Record{}, "", api.ErrArg},
		{api.Record{Seq: 1}, "", api.ErrKind},
		{api.Record{Seq: 1, Event: api.Event{Kind: api.Place}}, "", api.ErrField},
		{api.Record{Seq: 1, Event: api.Event{Kind: api.Add, Order: 7, Qty: -2}}, "", api.ErrField},
		{api.Record{Seq: 1, Event: api.Event{Kind: api.Add, Order: 7, Note: strings.Repeat("x", 121)}}, "", api.ErrBig},
	} {
		if got, bad := dump.Line(x.r); got != x.want || bad != x.bad {
			t.Errorf("Line(%v) = %q, %d", x.r, got, bad)
		}
		if x.bad == api.OK {
			if got, bad := dump.Record(x.want); got != x.r || bad != api.OK {
				t.Errorf("Record(%q) = %v, %d", x.want, got, bad)
			}
		}
	}
}

func TestP24_5Record(t *testing.T) {
	for s, want := range map[string]api.Errno{
		"":                            api.ErrLine,
		"1":                           api.ErrLine,
		"place":                       api.ErrLine,
		"x":                           api.ErrLine,
		"1\tplace\torder=7":           api.ErrLine,
		" ":                           api.ErrWord,
		" place order=7":              api.ErrWord,
		"place order=7":               api.ErrWord,
		"01 place order=7":            api.ErrWord,
		"+1 place order=7":            api.ErrWord,
		"-0 place order=7":            api.ErrWord,
		"x x":                         api.ErrWord,
		"9223372036854775808 place":   api.ErrWord,
		"0 place order=7":             api.ErrArg,
		"-1 place order=7":            api.ErrArg,
		"1099511627777 place order=7": api.ErrArg,
		"0 x":                         api.ErrArg,
		"1 ":                          api.ErrLine,
		"1  place order=7":            api.ErrLine,
		"1 x order=7":                 api.ErrLine,
		"1 place order=7 ":            api.ErrLine,
		"1 place order=07":            api.ErrWord,
		"1 place":                     api.ErrField,
		"1 add order=7 qty=-2":        api.ErrField,
		"1 place order=7":             api.OK,
		"1099511627776 clear order=7": api.OK,
	} {
		got, bad := dump.Record(s)
		model, wanted := modelRecord(s)
		if bad != want || got != model || bad != wanted {
			t.Errorf("Record(%q) = %v, %d, not %d (the model: %v, %d)", s, got, bad, want, model, wanted)
		}
	}
}

func TestP24_6Text(t *testing.T) {
	place := func(seq int) api.Record {
		return api.Record{Seq: seq, Event: api.Event{Kind: api.Place, Order: 7}}
	}
	few := func(rs ...api.Record) []api.Record { return rs }
	wrong := api.Record{Seq: 3, Event: api.Event{Kind: api.Place}}
	for _, x := range []struct {
		rs   []api.Record
		want string
		bad  api.Errno
	}{
		{nil, "", api.OK},
		{few(), "", api.OK},
		{few(place(1)), "1 place order=7\n", api.OK},
		{few(place(2), place(1), place(1)), "2 place order=7\n1 place order=7\n1 place order=7\n", api.OK},
		{few(place(0)), "", api.ErrArg},
		{few(place(1), place(0), wrong), "", api.ErrArg},
		{few(place(1), wrong, place(0)), "", api.ErrField},
		{few(place(1), place(2), api.Record{Seq: 3}), "", api.ErrKind},
	} {
		if got, bad := dump.Text(x.rs); got != x.want || bad != x.bad {
			t.Errorf("Text(%v) = %q, %d", x.rs, got, bad)
		}
		if x.bad == api.OK {
			if rs, n, bad := dump.Read(x.want); !slices.Equal(rs, x.rs) || n != 0 || bad != api.OK {
				t.Errorf("Read(%q) = %v, %d, %d", x.want, rs, n, bad)
			}
		}
	}
}

func TestP24_6Read(t *testing.T) {
	line := "1 place order=7\n"
	for _, x := range []struct {
		s   string
		n   int
		bad api.Errno
	}{
		{"", 0, api.OK},
		{line, 0, api.OK},
		{line + line, 0, api.OK},
		{"\n", 1, api.ErrLine},
		{"\n\n", 1, api.ErrLine},
		{line + "\n", 2, api.ErrLine},
		{"\n" + line, 1, api.ErrLine},
		{line + "x\n", 2, api.ErrLine},
		{line + "0 place order=7\n" + line, 2, api.ErrArg},
		{line + line + "1 place order=07\nx\n", 3, api.ErrWord},
		{line[:15], 1, api.ErrShort},
		{line + line[:15], 2, api.ErrShort},
		{line + line + "1", 3, api.ErrShort},
		{"x", 1, api.ErrShort}, // what no line end stands behind is not read
		{" ", 1, api.ErrShort},
		{line + "0 place", 2, api.ErrShort},
		{"x\n" + line[:15], 1, api.ErrLine},
		{"1 place order=7\r\n", 1, api.ErrWord},
		{"1 place order=7\r", 1, api.ErrShort},
		{line + "\x00", 2, api.ErrShort},
		{strings.Repeat(line, 3000) + "1 place\n", 3001, api.ErrField},
		{strings.Repeat(line, 3000) + "1", 3001, api.ErrShort},
		{strings.Repeat(line, 3000), 0, api.OK},
	} {
		rs, n, bad := dump.Read(x.s)
		want, line, wanted := modelRead(x.s)
		if n != x.n || bad != x.bad || !slices.Equal(rs, want) || n != line || bad != wanted {
			t.Errorf("Read(%.60q) = %v, %d, %d, not %d, %d", x.s, rs, n, bad, x.n, x.bad)
		}
	}
}

// What is written is read again, and what is read is written again, whatever the text.
func TestP24_3To7ThereAndBack(t *testing.T) {
	r := rand.New(rand.NewSource(7))
	taken, codes := 0, map[api.Errno]int{}
	for range 30000 {
		v, e := anyEvent(r)
		words, bad := dump.Words(v, e)
		want, wanted := modelWords(v, e)
		if words != want || bad != wanted {
			t.Fatalf("Words(%d, %v) = %q, %d, not %q, %d", v, e, words, bad, want, wanted)
		}
		if bad != api.OK {
			continue
		}
		if got, bad := dump.Event(v, words); got != e || bad != api.OK {
			t.Fatalf("Event(%d, %q) = %v, %d", v, words, got, bad)
		}
		for range r.Intn(3) {
			words = spoilt(r, words)
		}
		got, bad := dump.Event(v, words)
		model, wanted := modelEvent(v, words)
		if got != model || bad != wanted {
			t.Fatalf("Event(%d, %q) = %v, %d, not %v, %d", v, words, got, bad, model, wanted)
		}
		codes[bad]++
		if bad == api.OK {
			taken++
			if again, bad := dump.Words(v, got); again != words || bad != api.OK {
				t.Fatalf("Words(%d, %v) = %q, %d, not %q", v, got, again, bad, words)
			}
		}
	}
	for _, bad := range []api.Errno{api.OK, api.ErrLine, api.ErrWord, api.ErrField} {
		if codes[bad] < 300 {
			t.Errorf("%d was answered %d times", bad, codes[bad])
		}
	}
}

func TestP24_5To7LinesThereAndBack(t *testing.T) {
	r := rand.New(rand.NewSource(8))
	codes := map[api.Errno]int{}
	for range 4000 {
		var rs []api.Record
		var lines string
		for range r.Intn(5) {
			one := api.Record{Seq: near(r, 1, 1<<40), Event: someEvent(r, 5)}
			line, bad := dump.Line(one)
			words, _ := modelWords(5, one.Event)
			if line != strconv.Itoa(one.Seq)+" "+words || bad != api.OK {
				t.Fatalf("Line(%v) = %q, %d", one, line, bad)
			}
			if got, bad := dump.Record(line); got != one || bad != api.OK {
				t.Fatalf("Record(%q) = %v, %d", line, got, bad)
			}
			rs, lines = append(rs, one), lines+line+"\n"
		}
		text, bad := dump.Text(rs)
		if text != lines || bad != api.OK {
			t.Fatalf("Text(%v) = %q, %d", rs, text, bad)
		}
		if got, n, bad := dump.Read(text); !slices.Equal(got, rs) || n != 0 || bad != api.OK {
			t.Fatalf("Read(%q) = %v, %d, %d", text, got, n, bad)
		}
		for range 1 + r.Intn(2) {
			text = spoilt(r, text)
		}
		got, n, bad := dump.Read(text)
		want, line, wanted := modelRead(text)
		if !slices.Equal(got, want) || n != line || bad != wanted {
			t.Fatalf("Read(%q) = %v, %d, %d, not %v, %d, %d", text, got, n, bad, want, line, wanted)
		}
		codes[bad]++
		if bad == api.OK {
			if again, bad := dump.Text(got); again != text || bad != api.OK {
				t.Fatalf("Text(%v) = %q, %d, not %q", got, again, bad, text)
			}
		}
		first, _, _ := strings.Cut(text, "\n")
		one, bad := dump.Record(first)
		if model, wanted := modelRecord(first); one != model || bad != wanted {
			t.Fatalf("Record(%q) = %v, %d, not %v, %d", first, one, bad, model, wanted)
		}
	}
	for _, bad := range []api.Errno{api.OK, api.ErrLine, api.ErrWord, api.ErrShort} {
		if codes[bad] < 100 {
			t.Errorf("%d was answered %d times", bad, codes[bad])
		}
	}
}

func TestP24_8State(t *testing.T) {
	first := order.Fold(order.Empty(7), []api.Event{{Kind: api.Place, Order: 7, Tax: 1000}, {Kind: api.Add, Order: 7, Item: 3, Qty: 2, Price: 500}, {Kind: api.Add, Order: 7, Item: 1, Qty: 1, Price: 99}})
	line := []api.Line{{Item: 0, Price: 10, Qty: 6, Shipped: 5}, {Item: 65535, Price: 0, Qty: 1}}
	for _, x := range []struct {
		s    api.State
		want string
		bad  api.Errno
	}{
		{first, "order 7 open tax=1000 events=3 1:99*1-0 3:500*2-0", api.OK},
		{order.Empty(7), "order 7 none", api.OK},
		{order.Empty(1 << 40), "order 1099511627776 none", api.OK},
		{api.State{Order: 7, Events: 2, Refused: 2}, "order 7 none events=2 refused=2", api.OK},
		{api.State{Order: 7, Status: api.Open}, "order 7 open", api.OK},
		{api.State{Order: 7, Status: api.Held, Prior: api.Open, Events: 2}, "order 7 held open events=2", api.OK},
		{api.State{Order: 7, Status: api.Held, Prior: api.Paid, Cur: 3, Tax: 5000, Lines: line, Paid: 90, Refunded: 80, Events: 9, Refused: 1, Stamp: 4, Who: "ann"}, "order 7 held paid cur=3 tax=5000 paid=90 refunded=80 events=9 refused=1 stamp=4 who=ann 0:10*6-5 65535:0*1-0", api.OK},
		{api.State{Order: 7, Status: api.Paid, Lines: line, Paid: 60, Who: "-"}, "order 7 paid paid=60 who=- 0:10*6-5 65535:0*1-0", api.OK},
		{api.State{Order: 7, Status: api.Sent, Lines: []api.Line{{Item: 2, Price: 1, Qty: 1, Shipped: 1}}, Paid: 1, Refunded: 1}, "order 7 sent paid=1 refunded=1 2:1*1-1", api.OK},
		{api.State{Order: 7, Status: api.Cancelled, Stamp: 1 << 40}, "order 7 cancelled stamp=1099511627776", api.OK},
		{api.State{}, "", api.ErrState},
		{api.State{Order: -7}, "", api.ErrState},
		{api.State{Order: 1<<40 + 1}, "", api.ErrState},
		{api.State{Order: 7, Status: 6}, "", api.ErrState},
		{api.State{Order: 7, Status: -1}, "", api.ErrState},
		{api.State{Order: 7, Status: api.Held}, "", api.ErrState},
		{api.State{Order: 7, Status: api.Open, Prior: api.Open}, "", api.ErrState},
		{api.State{Order: 7, Status: api.Open, Who: "A"}, "", api.ErrState},
		{api.State{Order: 7, Status: api.Open, Paid: 1}, "", api.ErrState},
		{api.State{Order: 7, Status: api.Open, Lines: []api.Line{{Item: 1}}}, "", api.ErrState},
		{api.State{Order: 7, Status: api.Held, Prior: 77}, "", api.ErrState},
	} {
		if got, bad := dump.State(x.s); got != x.want || bad != x.bad {
			t.Errorf("State(%v) = %q, %d, not %q, %d", x.s, got, bad, x.want, x.bad)
		}
	}
}

// Two valid states have one line just if they are the same: just if they have one record.
func TestP24_8TwoStatesHaveTwoLines(t *testing.T) {
	r := rand.New(rand.NewSource(24))
	records := map[string]string{}
	statuses := map[string]int{}
	hold := func(s api.State) {
		t.Helper()
		line, bad := dump.State(s)
		want, wanted := modelState(s)
		if line != want || bad != wanted {
			t.Fatalf("State(%v) = %q, %d, not %q, %d", s, line, bad, want, wanted)
		}
		if bad != api.OK {
			return
		}
		record, bad := canon.Encode(s)
		if bad != api.OK {
			t.Fatalf("%v has no record: %d", s, bad)
		}
		if former, there := records[line]; there && former != string(record) {
			t.Fatalf("another state has the line %q too", line)
		}
		records[line] = string(record)
		statuses[strings.Fields(line)[2]]++
	}
	for range 4000 {
		s := someState(r)
		hold(s)
		for range 6 {
			x := s
			x.Lines = slices.Clone(s.Lines)
			change(r, &x)
			hold(x)
		}
	}
	if len(statuses) != 6 {
		t.Errorf("the statuses are %v", statuses)
	}
	back := map[string]string{}
	for line, record := range records {
		if former, there := back[record]; there {
			t.Fatalf("one state has the lines %q and %q", former, line)
		}
		back[record] = line
	}
}

// change puts a field of a state a little off.
func change(r *rand.Rand, s *api.State) {
	d := 1 - 2*r.Intn(2)
	switch r.Intn(13) {
	case 0:
		s.Order += d
	case 1:
		s.Cur += d
	case 2:
		s.Tax += d
	case 3:
		s.Paid += d
	case 4:
		s.Refunded += d
	case 5:
		s.Events += d
	case 6:
		s.Refused += d
	case 7:
		s.Stamp += d
	case 8:
		s.Who += "x"
	case 9:
		s.Status, s.Prior = api.Held, s.Status
	case 10:
		s.Status, s.Prior = api.Cancelled, api.None
	default:
		if len(s.Lines) > 0 {
			l := &s.Lines[r.Intn(len(s.Lines))]
			*[]*int{&l.Item, &l.Price, &l.Qty, &l.Shipped}[r.Intn(4)] += d
		}
	}
}

func TestRule4Memory(t *testing.T) {
	b := append([]byte("hi"), 7, 7)[:2]
	text := dump.Hex(b)
	if !bytes.Equal(b[:4], []byte("hi\x07\x07")) {
		t.Error("Hex has changed its argument")
	}
	clear(b)
	if text != "6869" {
		t.Errorf("Hex has kept its argument: %q", text)
	}
	x, _ := dump.Unhex("6869")
	clear(x[:cap(x)])
	if y, _ := dump.Unhex("6869"); string(y) != "hi" {
		t.Errorf("Unhex: %x", y)
	}
	rs := []api.Record{{Seq: 1, Event: someEvent(rand.New(rand.NewSource(1)), 5)}, {Seq: 2, Event: api.Event{Kind: api.Place, Order: 1}}, {Seq: 9}}
	before := slices.Clone(rs)
	lines, _ := dump.Text(rs[:2])
	if !slices.Equal(rs, before) {
		t.Error("Text has changed its argument")
	}
	got, _, _ := dump.Read(lines)
	clear(got[:cap(got)])
	if again, _, bad := dump.Read(lines); !slices.Equal(again, before[:2]) || bad != api.OK {
		t.Errorf("Read: %v, %d", again, bad)
	}
	s := api.State{Order: 7, Status: api.Open, Lines: append([]api.Line{{Item: 2, Price: 1, Qty: 1}}, api.Line{Item: 1})[:1]}
	dump.State(s)
	if !slices.Equal(s.Lines[:2], []api.Line{{Item: 2, Price: 1, Qty: 1}, {Item: 1}}) {
		t.Error("State has changed its argument")
	}
}

// Whatever text is given, the calls end, and soon: many words cost no more than few.
func TestRule1WhateverIsGiven(t *testing.T) {
	r := rand.New(rand.NewSource(9))
	pieces := []string{"place", "add", " ", " ", "=", "order=7", "order", "note=", "61", "who=a", "1", "0", "-", "\n", "\x00", "\xff", "é", "12 "}
	for range 30000 {
		var s string
		for range r.Intn(9) {
			s += pieces[r.Intn(len(pieces))]
		}
		v := r.Intn(8) - 1
		e, bad := dump.Event(v, s)
		if want, wanted := modelEvent(v, s); e != want || bad != wanted {
			t.Fatalf("Event(%d, %q) = %v, %d", v, s, e, bad)
		}
		rs, n, bad := dump.Read(s)
		if want, line, wanted := modelRead(s); !slices.Equal(rs, want) || n != line || bad != wanted {
			t.Fatalf("Read(%q) = %v, %d, %d", s, rs, n, bad)
		}
	}
	long := strings.Repeat(" ", 1<<22)
	for _, s := range []string{long, "add" + long, "add order=7" + long, "add order=7 note=" + strings.Repeat("6", 1<<22), "add who=" + strings.Repeat("a", 1<<22), "add order=" + strings.Repeat("9", 1<<22)} {
		if e, bad := dump.Event(5, s); e != (api.Event{}) || bad == api.OK {
			t.Errorf("Event(%.30q..): %d", s, bad)
		}
		if r, bad := dump.Record("1 " + s); r != (api.Record{}) || bad == api.OK {
			t.Errorf("Record(1 %.30q..): %d", s, bad)
		}
	}
}
