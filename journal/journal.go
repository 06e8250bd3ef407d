package journal

import "strings"

// Gather joins the pieces that come, till no more do, and puts an end behind
// them: they are the writing of one call. If none comes, there is nothing to write.
func Gather(pieces <-chan string) string {
	var text strings.Builder
	for piece := range pieces {
		text.WriteString(piece)
	}
	if text.Len() == 0 {
		return ""
	}
	last := Record{Kind: end, Numbers: [6]int{sum(text.String())}}
	text.WriteString(last.Line())
	return text.String()
}

// Size tells how many bytes the shortest journal of so many tasks takes.
func Size(tasks int) int {
	return len(Title) + tasks*size(Task) + size(end)
}

// Scan reads what a crash has left of a journal. The records of all calls
// that are whole go to take, one by one; the answer is how many bytes these
// calls have, and whether this is a journal at all (and take agreed each time).
func Scan(text string, take func(Record) bool) (int, bool) {
	if !strings.HasPrefix(text, Title) {
		return 0, strings.HasPrefix(Title, text)
	}
	var call []Record
	whole, at := 0, len(Title)
next:
	if at == len(text) {
		return whole, true
	}
	kind, ok := kindOf(text[at])
	if !ok {
		return 0, false
	}
	if size(kind) > len(text)-at {
		return whole, true
	}
	from := at
	at += size(kind)
	record, ok := parse(kind, text[from:at])
	if !ok {
		return 0, false
	}
	if kind != end {
		call = append(call, record)
		goto next
	}
	if record.Numbers[0] != sum(text[whole:from]) || !takeAll(call, take) {
		return 0, false
	}
	whole, call = at, call[:0]
	goto next
}

// takeAll answers false for a call without a record too: none is written.
func takeAll(call []Record, take func(Record) bool) bool {
	for _, r := range call {
		if !take(r) {
			return false
		}
	}
	return len(call) > 0
}

// sum is FNV-1a: it tells a journal from other bytes. (Against crashes the
// end record alone would do.)
func sum(text string) int {
	n := uint32(2166136261)
	for i := range len(text) {
		n = (n ^ uint32(text[i])) * 16777619
	}
	return int(n)
}
