package journal

import (
	"math"
	"slices"
	"strings"
	"testing"

	"handout/api"
)

// write is the writing of one call that sends these pieces.
func write(pieces ...string) string {
	sent := make(chan string)
	go func() {
		defer close(sent)
		for _, piece := range pieces {
			sent <- piece
		}
	}()
	return Gather(sent)
}

func someTask() Record {
	return Record{Task, [6]int{3, 9, 1, 5, 4, 1 << 40}, [2]string{"12345678", strings.Repeat("\xff", api.MaxPayload)}}
}

func someLease(id int) Record {
	return Record{Kind: Lease, Numbers: [6]int{id, 5}}
}

func someDone(id int) Record {
	return Record{Kind: Done, Numbers: [6]int{id}}
}

func someAgain(id int) Record {
	return Record{Kind: Again, Numbers: [6]int{id}}
}

// scan reads a text and keeps the records.
func scan(text string) ([]Record, int, bool) {
	var records []Record
	whole, ok := Scan(text, func(r Record) bool {
		records = append(records, r)
		return true
	})
	return records, whole, ok
}

func TestRecordsComeBack(t *testing.T) {
	records := []Record{
		someTask(), someLease(1), someLease(api.MaxTasks), someDone(1), someDone(api.MaxTasks), someAgain(1), someAgain(api.MaxTasks),
		{Task, [6]int{}, [2]string{"k", ""}},
		{Task, [6]int{0, 0, 0, 0, 0, math.MaxInt}, [2]string{"\x00", "TLDAE\x00"}},
	}
	text := Title
	for _, r := range records {
		if len(r.Line()) != size(r.Kind) {
			t.Errorf("the line of %+v has %d bytes, want %d", r, len(r.Line()), size(r.Kind))
		}
		text += r.Line()
	}
	text = write(text)
	got, whole, ok := scan(text)
	if !slices.Equal(got, records) || whole != len(text) || !ok {
		t.Errorf("Scan = %+v, %d, %t, want all records", got, whole, ok)
	}
}

func TestEveryKindHasItsOwnSign(t *testing.T) {
	for k := range kinds {
		if got, ok := kindOf(kinds[k].sign); int(got) != k || !ok {
			t.Errorf("the sign of kind %d is that of %d", k, got)
		}
	}
}

func TestGatherPutsAnEndBehindThePieces(t *testing.T) {
	if text := write(); text != "" {
		t.Errorf("without a piece %q is written", text)
	}
	one, two := write("a", "bc"), write("abc")
	if one != two || !strings.HasPrefix(one, "abc"+string(kinds[end].sign)) || len(one) != 3+size(end) {
		t.Errorf("pieces are gathered to %q and %q", one, two)
	}
}

func TestSizeIsThatOfAllTasks(t *testing.T) {
	for _, n := range []int{1, 2, api.MaxTasks} {
		text := write(Title, strings.Repeat(someTask().Line(), n))
		if Size(n) != len(text) {
			t.Errorf("Size(%d) = %d, want %d", n, Size(n), len(text))
		}
	}
}

// TestScanLeavesAtWhatIsNotWhole cuts a journal of three calls at every place.
func TestScanLeavesAtWhatIsNotWhole(t *testing.T) {
	one := write(Title, someTask().Line(), someTask().Line())
	two := write(someLease(1).Line())
	three := write(someTask().Line(), someLease(2).Line(), someDone(3).Line(), someAgain(2).Line())
	text := one + two + three
	for cut := range len(text) + 1 {
		want, records := 0, 0
		switch {
		case cut == len(text):
			want, records = cut, 7
		case cut >= len(one+two):
			want, records = len(one+two), 3
		case cut >= len(one):
			want, records = len(one), 2
		}
		got, whole, ok := scan(text[:cut])
		if len(got) != records || whole != want || !ok {
			t.Errorf("Scan of the first %d bytes = %d records, %d, %t, want %d, %d", cut, len(got), whole, ok, records, want)
		}
	}
}

func TestScanRefusesWhatIsNoJournal(t *testing.T) {
	call := write(Title, someTask().Line())
	longKey := []byte(someTask().Line())
	longKey[1+1+1+1+1+1+8] = api.MaxKey + 1
	texts := map[string]string{
		"other bytes":                     "x",
		"a start and other bytes":         Title[:3] + "x",
		"an unknown sign":                 Title + "x",
		"an unknown sign behind a call":   call + "x",
		"a title behind a call":           call + Title,
		"another byte in a call":          strings.Replace(call, "12345678", "12345679", 1),
		"a sum that is another one":       call[:len(call)-1] + string([]byte{call[len(call)-1] + 1}),
		"a call without a record":         write(Title),
		"an end behind a call":            call + call[len(call)-size(end):],
		"a key that is longer than it is": write(Title, string(longKey)),
	}
	for name, text := range texts {
		if _, whole, ok := scan(text); ok || whole != 0 {
			t.Errorf("%s: Scan = %d, %t", name, whole, ok)
		}
	}
}

func TestScanAsksWhoTakes(t *testing.T) {
	text := write(Title, someTask().Line()) + write(someLease(1).Line(), someLease(2).Line())
	for limit := range 3 {
		taken := 0
		whole, ok := Scan(text, func(Record) bool {
			taken++
			return taken <= limit
		})
		if whole != 0 || ok || taken != limit+1 {
			t.Errorf("Scan, refused at the record %d = %d, %t, behind %d records", limit+1, whole, ok, taken)
		}
	}
}

// TestScanEnds puts every byte in the place of every byte of a journal.
func TestScanEnds(t *testing.T) {
	text := write(Title, someTask().Line()) + write(someLease(1).Line()) + write(someDone(1).Line(), someAgain(1).Line())
	for i := range len(text) {
		for b := range 256 {
			if _, whole, ok := scan(text[:i] + string([]byte{byte(b)}) + text[i+1:]); !ok && whole != 0 || whole > len(text) {
				t.Errorf("Scan with the byte %d at %d = %d, %t", b, i, whole, ok)
			}
		}
	}
}
