package names_test

import (
	"fmt"
	"math"
	"strings"
	"testing"

	"daybook/api"
	"daybook/names"
	"daybook/simfs"
)

// outside is numbers that no file has.
var outside = []int{0, -1, -5, -999999, 1000000, 1000001, 1999999, 10000000, math.MaxInt32, math.MinInt32, math.MaxInt, math.MinInt, math.MinInt + 1}

func TestP15_1TheExamples(t *testing.T) {
	if names.Manifest != "manifest" || names.Temp != "manifest.tmp" {
		t.Error("the fixed names")
	}
	if names.Segment(1) != "seg-000001" || names.Book(999999) != "book-999999" || names.Segment(0) != "" || names.Book(1000000) != "" {
		t.Error("the first example")
	}
}

func TestP15_1EveryNumber(t *testing.T) {
	for n := 1; n <= api.MaxNum; n++ {
		seg, book := names.Segment(n), names.Book(n)
		if seg != fmt.Sprintf("seg-%06d", n) || book != fmt.Sprintf("book-%06d", n) {
			t.Fatalf("of %d: %q and %q", n, seg, book)
		}
		if !simfs.Right(seg) || !simfs.Right(book) {
			t.Fatalf("%q, %q: not right on a disk", seg, book)
		}
	}
	for _, name := range []string{names.Manifest, names.Temp} {
		if !simfs.Right(name) {
			t.Errorf("%q: not right on a disk", name)
		}
	}
}

func TestP15_1NumbersOutside(t *testing.T) {
	for _, n := range outside {
		if names.Segment(n) != "" || names.Book(n) != "" {
			t.Errorf("of %d: %q and %q", n, names.Segment(n), names.Book(n))
		}
	}
}

func TestP15_2Kinds(t *testing.T) {
	if names.Alien != 0 || names.OfManifest != 1 || names.OfTemp != 2 || names.OfSegment != 3 || names.OfBook != 4 {
		t.Error("the kinds' numbers")
	}
	for _, x := range []struct {
		name    string
		kind, n int
	}{
		{"manifest", names.OfManifest, 0},
		{"manifest.tmp", names.OfTemp, 0},
		{"seg-000001", names.OfSegment, 1},
		{"seg-000010", names.OfSegment, 10},
		{"seg-123456", names.OfSegment, 123456},
		{"seg-999999", names.OfSegment, 999999},
		{"book-000001", names.OfBook, 1},
		{"book-000042", names.OfBook, 42},
		{"book-100000", names.OfBook, 100000},
		{"book-999999", names.OfBook, 999999},
	} {
		if kind, n := names.Parse(x.name); kind != x.kind || n != x.n {
			t.Errorf("Parse(%q) = %d, %d", x.name, kind, n)
		}
	}
}

func TestP15_2EveryNumberThereAndBack(t *testing.T) {
	for n := 1; n <= api.MaxNum; n++ {
		if kind, got := names.Parse(names.Segment(n)); kind != names.OfSegment || got != n {
			t.Fatalf("the segment %d: %d, %d", n, kind, got)
		}
		if kind, got := names.Parse(names.Book(n)); kind != names.OfBook || got != n {
			t.Fatalf("the book %d: %d, %d", n, kind, got)
		}
	}
}

func TestP15_2Aliens(t *testing.T) {
	aliens := []string{"seg-000000", "seg-1", "seg-0000010", "seg-00000a", "",
		"book-000000", "book-1", "book-0000010", "book-00000a",
		"seg-", "book-", "seg", "book", "-000001", "000001", "1", "0", "-", "-1", "+1",
		"seg-00001", "seg-1000000", "seg-0000001", "seg-+00001", "seg--00001", "seg-00_001", "seg-0x0001", "seg-1e0001", "seg- 00001", "seg-00001 ",
		" seg-000001", "seg-000001 ", "seg-000001\n", "seg-000001\x00", "\x00seg-000001", "seg-000001.tmp", "seg-000001-000001",
		"Seg-000001", "SEG-000001", "seg_000001", "seg000001", "segs-000001", "sega-000001", "aseg-000001", "seg-seg-000001", "book-seg-000001", "seg-book-000001", "seg-book-1", "boo-000001", "books-000001",
		"seg-00000١", "seg-००००१", "seg-\uff11\uff11", "seg-00000\xff",
		"manifest ", " manifest", "Manifest", "manifes", "manifests", "manifest.", "manifest.tm", "manifest.tmp ", "manifest.tmp.tmp", ".tmp", "tmp", "manifest-000001", "manifest\x00",
		"seg-9223372036854775807", "seg-9223372036854775808", "seg--9223372036854775808", "seg-18446744073709551617", "book-18446744073709551617", "seg-4294967297", "seg-000001000000",
		"seg-" + strings.Repeat("0", 100000) + "1", strings.Repeat("seg-000001", 1000)}
	for _, name := range aliens {
		if kind, n := names.Parse(name); kind != names.Alien || n != 0 {
			t.Errorf("Parse(%.60q) = %d, %d", name, kind, n)
		}
	}
}

// TestP15_2OneByteOther puts every byte at every place of some names, takes one away and puts one in between.
func TestP15_2OneByteOther(t *testing.T) {
	for _, right := range []string{"manifest", "manifest.tmp", "seg-000001", "seg-909090", "book-000100", "book-999999"} {
		for at := range len(right) {
			for c := range 256 {
				b := []byte(right)
				b[at] = byte(c)
				check(t, string(b))
				check(t, right[:at]+string([]byte{byte(c)})+right[at:])
			}
			check(t, right[:at]+right[at+1:])
			check(t, right[:at])
			check(t, right[at:])
		}
	}
}

// check holds Parse against the document's words: the kind and number of the name that this is, among all that there are.
func check(t *testing.T, name string) {
	t.Helper()
	wantKind, want := names.Alien, 0
	digits := 0
	for i := len(name) - 1; i >= 0 && name[i] >= '0' && name[i] <= '9'; i-- {
		digits++
	}
	head, tail := name[:len(name)-digits], name[len(name)-digits:]
	n := 0
	for _, c := range tail {
		n = min(10*n+int(c-'0'), 1<<40)
	}
	if digits == 6 && n > 0 && head == "seg-" {
		wantKind, want = names.OfSegment, n
	}
	if digits == 6 && n > 0 && head == "book-" {
		wantKind, want = names.OfBook, n
	}
	if name == "manifest" {
		wantKind = names.OfManifest
	}
	if name == "manifest.tmp" {
		wantKind = names.OfTemp
	}
	if kind, got := names.Parse(name); kind != wantKind || got != want {
		t.Errorf("Parse(%q) = %d, %d; not %d, %d", name, kind, got, wantKind, want)
	}
}
