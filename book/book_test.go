package book_test

import (
	"bytes"
	"math"
	"math/rand"
	"slices"
	"strconv"
	"testing"

	"daybook/api"
	"daybook/book"
	"daybook/frame"
	"daybook/order"
	"daybook/simfs"
)

func TestP17_1Valid(t *testing.T) {
	few := func(ss ...api.State) []api.State { return ss }
	one := refused()[0]
	with := func(change func(s *api.State)) api.State {
		s := one
		change(&s)
		return s
	}
	for what, x := range map[string]struct {
		ss    []api.State
		valid bool
	}{
		"none":                      {nil, true},
		"no elements":               {few(), true},
		"the example":               {refused(), true},
		"three":                     {three(), true},
		"without events":            {few(order.Empty(7)), false},
		"without events, open":      {few(with(func(s *api.State) { s.Status, s.Events, s.Refused = api.Open, 0, 0 })), false},
		"one without events behind": {few(one, order.Empty(8)), false},
		"one without events ahead":  {few(order.Empty(6), one), false},
		"order 0":                   {few(with(func(s *api.State) { s.Order = 0 })), false},
		"an order below 0":          {few(with(func(s *api.State) { s.Order = -1 })), false},
		"order 1":                   {few(with(func(s *api.State) { s.Order = 1 })), true},
		"the greatest order":        {few(with(func(s *api.State) { s.Order = api.MaxOrder })), true},
		"an order above it":         {few(with(func(s *api.State) { s.Order = api.MaxOrder + 1 })), false},
		"events below 0":            {few(with(func(s *api.State) { s.Events, s.Refused = -1, -1 })), false},
		"the same twice":            {few(one, one), false},
		"falling":                   {few(one, with(func(s *api.State) { s.Order = 6 })), false},
		"rising":                    {few(one, with(func(s *api.State) { s.Order = 8 })), true},
		"the last one falls":        {append(three(), one), false},
		"the last one not valid":    {few(one, with(func(s *api.State) { s.Order, s.Cur = 8, 1 })), false},
		"the first one not valid":   {few(with(func(s *api.State) { s.Who = "a" }), with(func(s *api.State) { s.Order = 8 })), false},
	} {
		if got := book.Valid(x.ss); got != x.valid || got != modelValid(x.ss) {
			t.Errorf("%s: %v", what, got)
		}
	}
}

func TestP17_1Pick(t *testing.T) {
	ids := []int{math.MinInt, -1, 0, 1, 2, 7, 8, 9, 10, 1<<40 - 1, 1 << 40, 1<<40 + 1, math.MaxInt}
	for _, ss := range [][]api.State{nil, {}, refused(), three(), three()[:2], three()[1:]} {
		for _, id := range ids {
			if got, want := book.Pick(ss, id), modelPick(ss, id); !same(got, want) {
				t.Errorf("Pick(%v, %d) = %#v, not %#v", ss, id, got, want)
			}
		}
	}
	r := rand.New(rand.NewSource(1))
	for range 500 {
		ss := someStates(r)
		for id := -1; id < 11; id++ {
			if got, want := book.Pick(ss, id), modelPick(ss, id); !same(got, want) {
				t.Fatalf("Pick(%v, %d) = %#v, not %#v", ss, id, got, want)
			}
		}
	}
}

func TestP17_2Examples(t *testing.T) {
	ss := book.Fold(nil, []api.Event{{Kind: api.Place, Order: 5}, {Kind: api.Add, Order: 4}})
	if want := []api.State{{Order: 4, Events: 1, Refused: 1}, {Order: 5, Status: api.Open, Events: 1}}; !sameAll(ss, want) {
		t.Errorf("the example: %#v", ss)
	}
	place := api.Event{Kind: api.Place, Order: 5}
	for what, x := range map[string]struct {
		ss   []api.State
		es   []api.Event
		want []api.State
	}{
		"nothing":                        {nil, nil, nil},
		"no events":                      {three(), nil, three()},
		"no events, but a list":          {three(), []api.Event{}, three()},
		"an event behind":                {refused(), []api.Event{{Kind: api.Place, Order: 7, Who: "ann"}}, []api.State{{Order: 7, Status: api.Open, Events: 2, Refused: 1, Who: "ann"}}},
		"an event between":               {refused(), []api.Event{{Kind: api.Place, Order: 8}, place}, []api.State{{Order: 5, Status: api.Open, Events: 1}, refused()[0], {Order: 8, Status: api.Open, Events: 1}}},
		"twice":                          {nil, []api.Event{place, place}, []api.State{{Order: 5, Status: api.Open, Events: 2, Refused: 1}}},
		"broken, of an order without":    {nil, []api.Event{{Kind: api.NoKind, Order: 3}, {Kind: api.Place, Order: 3, Qty: -1}}, nil},
		"broken, of an order with":       {refused(), []api.Event{{Kind: api.NoKind, Order: 7}}, refused()},
		"broken, then not":               {nil, []api.Event{{Kind: api.NoKind, Order: 5}, place}, []api.State{{Order: 5, Status: api.Open, Events: 1}}},
		"orders out of bounds":           {nil, []api.Event{{Kind: api.Place}, {Kind: api.Place, Order: -1}, {Kind: api.Place, Order: api.MaxOrder + 1}, {Kind: api.Place, Order: math.MinInt}}, nil},
		"orders at the bounds":           {nil, []api.Event{{Kind: api.Place, Order: api.MaxOrder}, {Kind: api.Place, Order: 1}}, []api.State{{Order: 1, Status: api.Open, Events: 1}, {Order: api.MaxOrder, Status: api.Open, Events: 1}}},
		"an order that takes no more":    {three(), []api.Event{{Kind: api.Place, Order: 1}, {Kind: api.Release, Order: api.MaxOrder}}, three()},
		"a line more, and the old stays": {[]api.State{{Order: 2, Status: api.Open, Events: 2, Lines: []api.Line{{Item: 3, Price: 4, Qty: 1}}}}, []api.Event{{Kind: api.Add, Order: 2, Item: 1, Qty: 2, Price: 5}}, []api.State{{Order: 2, Status: api.Open, Events: 3, Lines: []api.Line{{Item: 1, Price: 5, Qty: 2}, {Item: 3, Price: 4, Qty: 1}}}}},
	} {
		got := book.Fold(x.ss, x.es)
		if !sameAll(got, x.want) || !book.Valid(got) {
			t.Errorf("%s: %#v", what, got)
		}
	}
}

func TestP17_2ByTheLetter(t *testing.T) {
	r := rand.New(rand.NewSource(2))
	for range 1000 {
		ss, es := someStates(r), anyEvents(r, r.Intn(80))
		if r.Intn(4) == 0 {
			ss = three()
		}
		got, want := book.Fold(ss, es), modelFold(ss, es)
		if !sameAll(got, want) || !book.Valid(got) {
			t.Fatalf("Fold(%#v, %#v) = %#v, not %#v", ss, es, got, want)
		}
	}
}

// However the orders come, a fold of very many of them ends soon.
func TestP17_2VeryManyOrders(t *testing.T) {
	const many = 100000
	var es []api.Event
	for i := range many {
		es = append(es, api.Event{Kind: api.Place, Order: many - i})
	}
	ss := book.Fold(nil, es)
	if len(ss) != many || !book.Valid(ss) || book.Pick(ss, 777).Status != api.Open {
		t.Errorf("%d states", len(ss))
	}
	if got := book.Fold(ss, es[:1]); len(got) != many || got[many-1].Events != 2 {
		t.Errorf("%d states behind one event more", len(got))
	}
}

func encoded(t *testing.T, num, seq int, ss []api.State) []byte {
	t.Helper()
	b, bad := book.Encode(num, seq, ss)
	if bad != api.OK {
		t.Fatalf("Encode(%d, %d, %#v): %d", num, seq, ss, bad)
	}
	return b
}

// thereAndBack holds the bytes of a book against the letter, and what is read out of them against the book.
func thereAndBack(t *testing.T, num, seq int, ss []api.State) {
	t.Helper()
	b := encoded(t, num, seq, ss)
	if !bytes.Equal(b, written(num, seq, ss)) {
		t.Fatalf("Encode(%d, %d, %#v) = %x", num, seq, ss, b)
	}
	n, s, back, bad := book.Decode(b)
	if n != num || s != seq || !sameAll(back, ss) || bad != api.OK {
		t.Fatalf("Decode of Encode(%d, %d, %#v) = %d, %d, %#v, %d", num, seq, ss, n, s, back, bad)
	}
}

func TestP17_3Encode(t *testing.T) {
	b := encoded(t, 3, 9, refused())
	want := joined(framed(api.BookFrame, 3, []byte{9}), framed(api.StateFrame, 7, []byte{0x02, 0x07, 0x10, 0x01, 0x12, 0x01}), framed(api.EndFrame, 3, []byte{1}))
	if len(b) != 21+26+21 || !bytes.Equal(b, want) {
		t.Errorf("the example: %x", b)
	}
	if got := encoded(t, 1, 1, nil); !bytes.Equal(got, joined(framed(api.BookFrame, 1, []byte{1}), framed(api.EndFrame, 1, []byte{0}))) {
		t.Errorf("no states: %x", got)
	}
}

func TestP17_3And4ThereAndBack(t *testing.T) {
	for _, num := range []int{1, 2, 127, 128, api.MaxNum - 1, api.MaxNum} {
		for _, seq := range []int{1, 127, 128, api.MaxSeq - 1, api.MaxSeq} {
			for _, ss := range [][]api.State{nil, refused(), three()} {
				thereAndBack(t, num, seq, ss)
			}
		}
	}
	r := rand.New(rand.NewSource(3))
	for range 1000 {
		thereAndBack(t, 1+r.Intn(api.MaxNum), 1+r.Intn(api.MaxSeq), someStates(r))
	}
	var many []api.State
	for i := range 1000 {
		many = append(many, api.State{Order: 3 * (i + 1), Events: 1, Refused: 1})
	}
	thereAndBack(t, 5, 1000, many)
}

func TestP17_3Errors(t *testing.T) {
	for what, x := range map[string]struct {
		num, seq int
		ss       []api.State
		bad      api.Errno
	}{
		"number 0":                    {0, 9, refused(), api.ErrArg},
		"a number below 0":            {-1, 9, refused(), api.ErrArg},
		"a number above MaxNum":       {api.MaxNum + 1, 9, refused(), api.ErrArg},
		"the least number":            {math.MinInt, 9, nil, api.ErrArg},
		"the greatest number":         {math.MaxInt, 9, nil, api.ErrArg},
		"seq 0":                       {1, 0, refused(), api.ErrArg},
		"a seq below 0":               {1, -1, refused(), api.ErrArg},
		"a seq above MaxSeq":          {1, api.MaxSeq + 1, refused(), api.ErrArg},
		"the least seq":               {1, math.MinInt, nil, api.ErrArg},
		"the greatest seq":            {1, math.MaxInt, nil, api.ErrArg},
		"no number and no states":     {0, 9, []api.State{{}}, api.ErrArg},
		"no seq and no states":        {1, 0, []api.State{{}}, api.ErrArg},
		"a state that is none":        {1, 9, []api.State{{}}, api.ErrState},
		"a state without events":      {1, 9, []api.State{{Order: 7}}, api.ErrState},
		"the same state twice":        {1, 9, append(refused(), refused()...), api.ErrState},
		"a state behind that is none": {1, 9, append(three(), api.State{Order: api.MaxOrder + 1, Events: 1, Refused: 1}), api.ErrState},
	} {
		if b, bad := book.Encode(x.num, x.seq, x.ss); bad != x.bad || len(b) != 0 {
			t.Errorf("%s: %x, %d", what, b, bad)
		}
		fs := simfs.New(1000)
		if bad := book.Save(fs, x.num, x.seq, x.ss); bad != x.bad || fs.Steps() != 0 || len(fs.List()) != 0 {
			t.Errorf("%s: Save answers %d, and %d steps were made", what, bad, fs.Steps())
		}
	}
}

// refuses asks for ErrBook and nothing beside it.
func refuses(t *testing.T, what string, b []byte) {
	t.Helper()
	if num, seq, ss, bad := book.Decode(b); bad != api.ErrBook || num != 0 || seq != 0 || len(ss) != 0 {
		t.Errorf("%s: Decode(%x) = %d, %d, %#v, %d", what, b, num, seq, ss, bad)
	}
}

func TestP17_4WrongBytes(t *testing.T) {
	for _, b := range [][]byte{written(3, 9, three()), written(3, 9, nil)} {
		for n := range b {
			refuses(t, "a beginning", b[:n])
		}
		for n := 1; n < len(b); n++ {
			refuses(t, "an end", b[n:])
		}
		for i := range b {
			for bit := range 8 {
				turned := bytes.Clone(b)
				turned[i] ^= 1 << bit
				refuses(t, "a turned bit", turned)
			}
		}
		refuses(t, "a byte behind", append(bytes.Clone(b), 0))
		refuses(t, "twice", append(bytes.Clone(b), b...))
	}
}

func TestP17_4WrongFrames(t *testing.T) {
	ps := parts(3, 9, three())
	for i := range ps {
		refuses(t, "a frame is missing", joined(slices.Delete(slices.Clone(ps), i, i+1)...))
		refuses(t, "a frame stands there twice", joined(slices.Insert(slices.Clone(ps), i, ps[i])...))
		for j := range i {
			turned := slices.Clone(ps)
			turned[i], turned[j] = turned[j], turned[i]
			refuses(t, "two frames in each other's place", joined(turned...))
		}
		f, _, _ := frame.Decode(ps[i])
		for kind := api.EventFrame; kind <= api.EndFrame; kind++ {
			if kind != f.Kind {
				refuses(t, "another kind", replaced(ps, i, framed(kind, f.Seq, f.Body)))
			}
		}
		for _, seq := range []int{0, f.Seq - 1, f.Seq + 1, 7, api.MaxSeq - 1} {
			if seq <= api.MaxSeq {
				refuses(t, "another number", replaced(ps, i, framed(f.Kind, seq, f.Body)))
			}
		}
		refuses(t, "no body", replaced(ps, i, framed(f.Kind, f.Seq, nil)))
		refuses(t, "a byte behind the body", replaced(ps, i, framed(f.Kind, f.Seq, append(bytes.Clone(f.Body), 0))))
		refuses(t, "a body without its end", replaced(ps, i, framed(f.Kind, f.Seq, f.Body[:len(f.Body)-1])))
	}
	refuses(t, "nothing", nil)
	refuses(t, "the first frame alone", ps[0])
	refuses(t, "the last frame alone", ps[4])
	refuses(t, "the count of another book", replaced(ps, 4, framed(api.EndFrame, 4, number(3))))
}

// replaced is the frames as one, with another in the place of the i-th.
func replaced(ps [][]byte, i int, b []byte) []byte {
	ps = slices.Clone(ps)
	ps[i] = b
	return joined(ps...)
}

func TestP17_4WrongNumbers(t *testing.T) {
	end := framed(api.EndFrame, 3, []byte{0})
	for what, head := range map[string][]byte{
		"seq 0":                        framed(api.BookFrame, 3, []byte{0}),
		"seq above MaxSeq":             framed(api.BookFrame, 3, number(api.MaxSeq+1)),
		"seq of 63 bits":               framed(api.BookFrame, 3, number(math.MaxInt)),
		"seq of 64 bits":               framed(api.BookFrame, 3, []byte{0x81, 0x80, 0x80, 0x80, 0x80, 0x80, 0x80, 0x80, 0x80, 1}),
		"seq of more than 64 bits":     framed(api.BookFrame, 3, []byte{0x81, 0x80, 0x80, 0x80, 0x80, 0x80, 0x80, 0x80, 0x80, 2}),
		"seq longer than need be":      framed(api.BookFrame, 3, []byte{0x89, 0}),
		"seq without its end":          framed(api.BookFrame, 3, []byte{0x89}),
		"two numbers":                  framed(api.BookFrame, 3, []byte{9, 9}),
		"another number than the end":  framed(api.BookFrame, 4, []byte{9}),
		"another number, the end's +1": framed(api.BookFrame, 2, []byte{9}),
	} {
		refuses(t, what, joined(head, end))
	}
	for _, num := range []int{0, api.MaxNum + 1, api.MaxSeq} {
		refuses(t, "no book's number", joined(framed(api.BookFrame, num, []byte{9}), framed(api.EndFrame, num, []byte{0})))
	}
	ps := parts(3, 9, three())
	for what, body := range map[string][]byte{
		"one too few": {2}, "one too many": {4}, "none": {0}, "longer than need be": {0x83, 0}, "two numbers": {3, 3}, "as a whole with all frames": {5},
		"of 64 bits": {0x83, 0x80, 0x80, 0x80, 0x80, 0x80, 0x80, 0x80, 0x80, 1},
	} {
		refuses(t, what, replaced(ps, 4, framed(api.EndFrame, 3, body)))
	}
}

func TestP17_4WrongStates(t *testing.T) {
	one := refused()[0]
	book := func(ss ...api.State) []byte { return written(3, 9, ss) }
	refuses(t, "a state without events", book(order.Empty(7)))
	refuses(t, "the same twice", book(one, one))
	refuses(t, "falling", book(one, api.State{Order: 6, Events: 1, Refused: 1}))
	refuses(t, "no order", replaced(parts(3, 9, refused()), 1, framed(api.StateFrame, 0, []byte{0x10, 0x01, 0x12, 0x01})))
	refuses(t, "a state that is not valid", replaced(parts(3, 9, refused()), 1, framed(api.StateFrame, 7, []byte{0x02, 0x07, 0x10, 0x01})))
	refuses(t, "no record", replaced(parts(3, 9, refused()), 1, framed(api.StateFrame, 7, []byte{0x02, 0x07, 0x10, 0x81, 0, 0x12, 0x01})))
}

// Whatever frames stand behind one another, Decode takes them where the model does, and what it takes it writes again.
func TestP17_4AnyFrames(t *testing.T) {
	r := rand.New(rand.NewSource(4))
	taken := 0
	for range 20000 {
		ps := parts(1+r.Intn(3), 1+r.Intn(200), someFew(r))
		for range r.Intn(3) {
			ps = spoiled(r, ps)
		}
		b := joined(ps...)
		num, seq, ss, bad := book.Decode(b)
		wantNum, wantSeq, want, wantBad := modelDecode(b)
		if num != wantNum || seq != wantSeq || !sameAll(ss, want) || bad != wantBad {
			t.Fatalf("Decode(%x) = %d, %d, %#v, %d, not %d, %d, %#v, %d", b, num, seq, ss, bad, wantNum, wantSeq, want, wantBad)
		}
		if bad == api.OK {
			taken++
			if again := encoded(t, num, seq, ss); !bytes.Equal(again, b) {
				t.Fatalf("Decode takes %x, Encode writes %x", b, again)
			}
		}
	}
	if taken < 6000 || taken > 15000 {
		t.Errorf("%d were taken", taken)
	}
}

// someFew is few states of few orders.
func someFew(r *rand.Rand) []api.State {
	var ss []api.State
	for id := 1; id < 6; id++ {
		if n := r.Intn(4); n > 0 {
			ss = append(ss, api.State{Order: id, Events: n, Refused: n})
		}
	}
	return ss
}

// spoiled is frames of which one is gone, stands elsewhere, or says something else.
func spoiled(r *rand.Rand, ps [][]byte) [][]byte {
	if len(ps) == 0 {
		return ps
	}
	i, j := r.Intn(len(ps)), r.Intn(len(ps))
	ps = slices.Clone(ps)
	f, _, bad := frame.Decode(ps[i])
	if bad != api.OK {
		return ps
	}
	switch r.Intn(7) {
	case 0:
		return slices.Delete(ps, i, i+1)
	case 1:
		return slices.Insert(ps, i, ps[j])
	case 2:
		ps[i], ps[j] = ps[j], ps[i]
	case 3:
		ps[i] = framed(1+r.Intn(7), f.Seq, f.Body)
	case 4:
		ps[i] = framed(f.Kind, r.Intn(6), f.Body)
	case 5:
		body := append(bytes.Clone(f.Body), 0)
		body[r.Intn(len(body))] = byte(r.Intn(8))
		ps[i] = framed(f.Kind, f.Seq, body[:len(f.Body)+r.Intn(2)])
	case 6:
		ps[i] = ps[i][:r.Intn(len(ps[i]))]
	}
	return ps
}

// lies asks for these files and no others.
func lies(t *testing.T, fs *simfs.FS, want ...api.File) {
	t.Helper()
	got := fs.Image()
	if !slices.EqualFunc(got, want, func(a, b api.File) bool {
		return a.Name == b.Name && bytes.Equal(a.Data, b.Data) && a.Safe == b.Safe
	}) {
		t.Errorf("there lie %v, not %v", got, want)
	}
}

func safe(name string, b []byte) api.File { return api.File{Name: name, Data: b, Safe: len(b)} }

func TestP17_5Save(t *testing.T) {
	fs := simfs.New(10000)
	for i, num := range []int{3, api.MaxNum, 1} {
		if bad := book.Save(fs, num, 9, three()); bad != api.OK || fs.Steps() != 3*(i+1) {
			t.Errorf("Save: %d, %d steps", bad, fs.Steps())
		}
	}
	if fs.ReadBytes() != 0 {
		t.Errorf("%d bytes read", fs.ReadBytes())
	}
	lies(t, fs, safe("book-000001", written(1, 9, three())), safe("book-000003", written(3, 9, three())), safe("book-999999", written(api.MaxNum, 9, three())))
}

func TestP17_5TheThreeSteps(t *testing.T) {
	half := api.File{Name: "book-000003", Data: written(3, 9, three())}
	for n, left := range [][]api.File{nil, {half}, {half}} {
		fs := simfs.New(10000)
		fs.Fuse(n + 1)
		if bad := book.Save(fs, 3, 9, three()); bad != api.ErrDown || fs.Steps() != n {
			t.Errorf("the power failed in step %d: %d, %d steps", n+1, bad, fs.Steps())
		}
		lies(t, fs, left...)
	}
}

func TestP17_5RefusedSteps(t *testing.T) {
	fs := simfs.New(10000)
	fs.Create("book-000003")
	if bad := book.Save(fs, 3, 9, three()); bad != api.ErrExists {
		t.Errorf("over another: %d", bad)
	}
	lies(t, fs, safe("book-000003", nil))

	fs = simfs.New(67)
	if bad := book.Save(fs, 3, 9, refused()); bad != api.ErrFull || fs.Steps() != 1 {
		t.Errorf("without room: %d", bad)
	}
	lies(t, fs, safe("book-000003", nil))
	if bad := book.Save(simfs.New(68), 3, 9, refused()); bad != api.OK {
		t.Errorf("with just the room: %d", bad)
	}

	fs = simfs.New(10000)
	for i := range api.MaxFiles {
		fs.Create("f" + strconv.Itoa(i))
	}
	if bad := book.Save(fs, 3, 9, refused()); bad != api.ErrFiles || len(fs.List()) != api.MaxFiles {
		t.Errorf("too many files: %d", bad)
	}

	off := simfs.New(10000)
	off.Fuse(1)
	off.Create("x")
	for what, x := range map[string]struct {
		fs  *simfs.FS
		bad api.Errno
	}{"the power is off": {off, api.ErrDown}, "no disk": {nil, api.ErrArg}, "one that New didn't make": {new(simfs.FS), api.ErrFull}} {
		if bad := book.Save(x.fs, 3, 9, refused()); bad != x.bad {
			t.Errorf("%s: %d", what, bad)
		}
		if bad := book.Save(x.fs, 0, 9, refused()); bad != api.ErrArg {
			t.Errorf("%s, and no number: %d", what, bad)
		}
		if bad := book.Save(x.fs, 3, 9, []api.State{{}}); bad != api.ErrState {
			t.Errorf("%s, and no states: %d", what, bad)
		}
	}
}

func mounted(t *testing.T, files ...api.File) *simfs.FS {
	t.Helper()
	fs, bad := simfs.Mount(100000, files)
	if bad != api.OK {
		t.Fatal(bad)
	}
	return fs
}

func TestP17_6Load(t *testing.T) {
	fs := simfs.New(10000)
	book.Save(fs, 3, 9, three())
	book.Save(fs, 4, api.MaxSeq, nil)
	image, steps := fs.Image(), fs.Steps()
	seq, ss, bad := book.Load(fs, 3)
	if seq != 9 || !sameAll(ss, three()) || bad != api.OK {
		t.Errorf("Load(3) = %d, %#v, %d", seq, ss, bad)
	}
	if fs.ReadBytes() != len(written(3, 9, three())) {
		t.Errorf("%d bytes read", fs.ReadBytes())
	}
	seq, ss, bad = book.Load(fs, 4)
	if seq != api.MaxSeq || len(ss) != 0 || bad != api.OK {
		t.Errorf("Load(4) = %d, %#v, %d", seq, ss, bad)
	}
	if fs.Steps() != steps {
		t.Errorf("%d steps", fs.Steps()-steps)
	}
	lies(t, fs, image...)
	fs = mounted(t, api.File{Name: "book-999999", Data: written(api.MaxNum, 1, refused()), Safe: 5})
	if seq, ss, bad := book.Load(fs, api.MaxNum); seq != 1 || !sameAll(ss, refused()) || bad != api.OK {
		t.Errorf("what is not safe counts: %d, %#v, %d", seq, ss, bad)
	}
}

func TestP17_6Errors(t *testing.T) {
	right := written(3, 9, refused())
	off := mounted(t, safe("book-000003", right))
	off.Fuse(1)
	off.Create("x")
	lay := func(b []byte) *simfs.FS { return mounted(t, safe("book-000003", b)) }
	turned := bytes.Clone(right)
	turned[40] ^= 4
	for what, x := range map[string]struct {
		fs  *simfs.FS
		num int
		bad api.Errno
	}{
		"no disk":                     {nil, 3, api.ErrArg},
		"no disk and no number":       {nil, 0, api.ErrArg},
		"the power is off":            {off, 3, api.ErrDown},
		"the power is off, no file":   {off, 4, api.ErrDown},
		"the power is off, no name":   {off, 0, api.ErrDown},
		"number 0":                    {lay(right), 0, api.ErrName},
		"a number below 0":            {lay(right), -3, api.ErrName},
		"a number above MaxNum":       {lay(right), api.MaxNum + 1, api.ErrName},
		"the greatest number":         {lay(right), math.MaxInt, api.ErrName},
		"no file":                     {lay(right), 4, api.ErrNoFile},
		"a disk that New didn't make": {new(simfs.FS), 3, api.ErrNoFile},
		"no bytes":                    {lay(nil), 3, api.ErrBook},
		"a beginning":                 {lay(right[:67]), 3, api.ErrBook},
		"a byte behind":               {lay(append(bytes.Clone(right), 0)), 3, api.ErrBook},
		"a turned bit":                {lay(turned), 3, api.ErrBook},
		"no states":                   {lay(written(3, 9, []api.State{{Order: 7}})), 3, api.ErrBook},
		"a book of another number":    {lay(written(4, 9, refused())), 3, api.ErrBook},
		"the number of another book":  {mounted(t, safe("book-000001", right)), 1, api.ErrBook},
	} {
		image := x.fs.Image()
		if seq, ss, bad := book.Load(x.fs, x.num); seq != 0 || len(ss) != 0 || bad != x.bad {
			t.Errorf("%s: %d, %#v, %d", what, seq, ss, bad)
		}
		lies(t, x.fs, image...)
	}
}

func TestP17_7TwoStretches(t *testing.T) {
	r := rand.New(rand.NewSource(5))
	for range 1000 {
		ss, es := someStates(r), anyEvents(r, r.Intn(80))
		if r.Intn(4) == 0 {
			ss = three()
		}
		at := r.Intn(len(es) + 1)
		if got, want := book.Fold(book.Fold(ss, es[:at]), es[at:]), book.Fold(ss, es); !sameAll(got, want) {
			t.Fatalf("Fold(%#v, %#v) in two at %d = %#v, not %#v", ss, es, at, got, want)
		}
	}
}

func TestP17_7PickOfFoldIsFoldOfPick(t *testing.T) {
	r := rand.New(rand.NewSource(6))
	for range 1000 {
		ss, es := someStates(r), anyEvents(r, r.Intn(80))
		if r.Intn(4) == 0 {
			ss = three()
		}
		folded := book.Fold(ss, es)
		for _, id := range []int{1, 2, 3, 4, 5, 6, 7, 8, 9, 10, api.MaxOrder - 1, api.MaxOrder} {
			if got, want := book.Pick(folded, id), order.Fold(book.Pick(ss, id), es); !same(got, want) {
				t.Fatalf("of Fold(%#v, %#v) the order %d = %#v, not %#v", ss, es, id, got, want)
			}
		}
	}
}

// The states of the tests come to all statuses: else they would tell less than they seem to.
func TestP17_7TheStatesAreOfAllSorts(t *testing.T) {
	r := rand.New(rand.NewSource(7))
	var by [6]int
	for range 500 {
		for _, s := range someStates(r) {
			by[s.Status]++
		}
	}
	for status, n := range by {
		if n == 0 {
			t.Errorf("no state of status %d", status)
		}
	}
}

// roomy is states with room behind them, and behind their lines; and all of that room.
func roomy() ([]api.State, []api.State) {
	all := append(three(), refused()...)
	for i := range all {
		all[i].Lines = append(all[i].Lines, api.Line{Item: 70000, Qty: 1})
		all[i].Lines = all[i].Lines[:len(all[i].Lines)-1]
	}
	return all[:3], all
}

// room is all that is reached by states, the room behind their lines too.
func room(all []api.State) []api.State {
	all = slices.Clone(all)
	for i := range all {
		all[i].Lines = all[i].Lines[:len(all[i].Lines)+1]
	}
	return all
}

func TestRule4ArgumentsStay(t *testing.T) {
	ss, all := roomy()
	es := []api.Event{{Kind: api.Release, Order: 9}, {Kind: api.Ship, Order: 9, Item: 4, Qty: 1}, {Kind: api.Place, Order: 2}, {Kind: api.Add, Order: 2, Item: 1, Qty: 1, Price: 1}}
	kept, events := clone(room(all)), slices.Clone(es)
	fs := simfs.New(10000)
	book.Valid(ss)
	picked := book.Pick(ss, 9)
	folded := book.Fold(ss, es)
	b := encoded(t, 3, 9, ss)
	if bad := book.Save(fs, 3, 9, ss); bad != api.OK {
		t.Fatal(bad)
	}
	if !sameAll(room(all), kept) || !slices.Equal(es, events) {
		t.Errorf("the states are %#v", room(all))
	}
	want := modelFold(three(), events)
	for _, s := range room(all) {
		clear(s.Lines)
	}
	clear(all)
	clear(es)
	if !same(picked, three()[1]) || !sameAll(folded, want) || !bytes.Equal(b, written(3, 9, three())) {
		t.Error("an argument was kept in an answer")
	}
	if _, got, bad := book.Load(fs, 3); bad != api.OK || !sameAll(got, three()) {
		t.Errorf("what was saved is kept: %#v", got)
	}
	bytesRoom := append(written(3, 9, three()), 1, 2, 3)
	before := bytes.Clone(bytesRoom)
	_, _, got, bad := book.Decode(bytesRoom[:len(bytesRoom)-3])
	if bad != api.OK || !bytes.Equal(bytesRoom, before) {
		t.Errorf("the bytes are %x", bytesRoom)
	}
	clear(bytesRoom)
	if !sameAll(got, three()) {
		t.Errorf("what was read is kept: %#v", got)
	}
}

// scratch writes over all that an answer reaches, the room behind it too, one list after the other, and tells whether any other list of it has changed.
func scratch(ss []api.State) bool {
	kept := clone(ss)
	apart := true
	for i := range ss {
		lines := ss[i].Lines[:cap(ss[i].Lines)]
		for j := range lines {
			lines[j] = api.Line{Item: -1}
		}
		apart = apart && sameAll(ss[i+1:], kept[i+1:])
	}
	clear(ss[:cap(ss)])
	return apart
}

func TestRule4AnswersAreNewMemory(t *testing.T) {
	line := []api.Line{{Item: 4, Price: 2, Qty: 5}}
	shared := func() []api.State { // two states that share their lines
		return []api.State{{Order: 1, Status: api.Open, Events: 2, Lines: line}, {Order: 2, Status: api.Open, Events: 2, Lines: line}, {Order: 3, Status: api.Open, Events: 2, Lines: line}}
	}
	ss := shared()
	es := []api.Event{{Kind: api.Add, Order: 2, Item: 1, Qty: 1, Price: 1}}
	fs := simfs.New(10000)
	book.Save(fs, 3, 9, three())
	for _, answer := range []func() []api.State{
		func() []api.State { return book.Fold(ss, nil) },
		func() []api.State { return book.Fold(ss, es) },
		func() []api.State { return []api.State{book.Pick(ss, 1)} },
		func() []api.State { return book.Fold(nil, anyEvents(rand.New(rand.NewSource(8)), 200)) },
		func() []api.State { _, _, got, _ := book.Decode(written(3, 9, ss)); return got },
		func() []api.State { _, got, _ := book.Load(fs, 3); return got },
	} {
		got := answer()
		want := clone(got)
		if !scratch(got) {
			t.Errorf("two lists of %#v share memory", want)
		}
		if again := answer(); !sameAll(again, want) {
			t.Errorf("it was %#v, and is %#v", want, again)
		}
		if !sameAll(ss, shared()) {
			t.Fatal("an answer was changed, and the argument with it")
		}
	}
	b := encoded(t, 3, 9, ss)
	clear(b[:cap(b)])
	if !bytes.Equal(encoded(t, 3, 9, ss), written(3, 9, shared())) {
		t.Error("the bytes were changed, and something else with them")
	}
}

// For what is no book's states nothing is promised but that the calls end.
func TestRule1WhateverIsGiven(t *testing.T) {
	r := rand.New(rand.NewSource(9))
	for range 2000 {
		var ss []api.State
		for range r.Intn(6) {
			ss = append(ss, api.State{Order: r.Intn(5) - 1, Status: api.Status(r.Intn(9) - 1), Prior: api.Status(r.Intn(6)), Events: r.Intn(4) - 1, Refused: r.Intn(3), Paid: r.Intn(3) * math.MaxInt / 2,
				Tax: r.Int(), Lines: []api.Line{{Item: r.Intn(3), Qty: math.MaxInt, Price: math.MaxInt, Shipped: r.Intn(3)}}})
		}
		es := anyEvents(r, r.Intn(20))
		if got, again := book.Fold(ss, es), book.Fold(ss, es); !sameAll(got, again) {
			t.Fatalf("Fold answers %#v and %#v", got, again)
		}
		for id := range 5 {
			book.Pick(ss, id)
		}
		if book.Valid(ss) != modelValid(ss) {
			t.Fatalf("Valid(%#v)", ss)
		}
		if _, bad := book.Encode(1, 1, ss); (bad == api.OK) != modelValid(ss) {
			t.Fatalf("Encode(%#v): %d", ss, bad)
		}
	}
	for n := range 100 {
		b := make([]byte, n)
		r.Read(b)
		refuses(t, "any bytes", b)
	}
}

func TestRule6DisksNeverMeet(t *testing.T) {
	a, b := simfs.New(1000), simfs.New(1000)
	book.Save(a, 3, 9, refused())
	book.Save(b, 3, 8, nil)
	if seq, ss, bad := book.Load(a, 3); seq != 9 || !sameAll(ss, refused()) || bad != api.OK {
		t.Errorf("%d, %#v, %d", seq, ss, bad)
	}
	if seq, ss, bad := book.Load(b, 3); seq != 8 || len(ss) != 0 || bad != api.OK {
		t.Errorf("%d, %#v, %d", seq, ss, bad)
	}
}
