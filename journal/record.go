// Package journal: what a service writes on its device, and how that is read again behind a crash.
//
// A journal is its title and, call by call, the records of what a call has
// changed, with an end record behind them. A call whose end is not there was
// never done.
package journal

import (
	"strings"

	"handout/api"
)

// Title stands ahead of the first record, so that other bytes are not taken for a journal.
const Title = "handout\n"

// Kind is the kind of a record.
type Kind int

const (
	// Task has the numbers queue, priority, done (0 or 1), times handed out,
	// attempts and token (of the last lease), and the texts key and payload.
	// The n-th one of a journal is the task n.
	Task Kind = iota
	// Lease has the numbers task and attempts: the task is handed out once more.
	Lease
	// Done has the number task: it was completed.
	Done
	// Again has the number task: it was dead, and has been handed out 0 times now.
	Again
	// end has the number sum: what comes ahead of it, back to the end before, is whole.
	end
)

// Of each kind its sign, and how many bytes each of its fields takes, the
// numbers ahead of the texts. (A text takes one byte more than it is long at
// most: for its length.)
var kinds = [...]struct {
	sign    byte
	numbers []int
	texts   []int
}{
	Task:  {'T', []int{1, 1, 1, 1, 1, 8}, []int{1 + api.MaxKey, 1 + api.MaxPayload}},
	Lease: {'L', []int{2, 1}, nil},
	Done:  {'D', []int{2}, nil},
	Again: {'A', []int{2}, nil},
	end:   {'E', []int{4}, nil},
}

// Record has the fields of its kind; those that the kind has not are left out.
type Record struct {
	Kind    Kind
	Numbers [6]int
	Texts   [2]string
}

// Line is the record as it stands in the journal.
func (r Record) Line() string {
	line := []byte{kinds[r.Kind].sign}
	for i, width := range kinds[r.Kind].numbers {
		line = appendNumber(line, r.Numbers[i], width)
	}
	for i, width := range kinds[r.Kind].texts {
		line = appendText(line, r.Texts[i], width)
	}
	return string(line)
}

func appendNumber(line []byte, n int, width int) []byte {
	for i := width - 1; i >= 0; i-- {
		line = append(line, byte(n>>(8*i)))
	}
	return line
}

// appendText fills up behind the text: a task takes the same room whatever
// it says, so that the room for all tasks hangs on their number alone.
func appendText(line []byte, text string, width int) []byte {
	line = append(line, byte(len(text)))
	line = append(line, text...)
	return append(line, make([]byte, width-1-len(text))...)
}

// kindOf finds a kind by its sign.
func kindOf(sign byte) (Kind, bool) {
	for k := range kinds {
		if kinds[k].sign == sign {
			return Kind(k), true
		}
	}
	return 0, false
}

// size tells how many bytes a record of this kind takes.
func size(k Kind) int {
	n := 1
	for _, width := range kinds[k].numbers {
		n += width
	}
	for _, width := range kinds[k].texts {
		n += width
	}
	return n
}

// parse reads a line that has the sign and the size of this kind. It answers
// false, if it is no record all the same.
func parse(k Kind, line string) (Record, bool) {
	r := Record{Kind: k}
	at := 1
	for i, width := range kinds[k].numbers {
		r.Numbers[i] = number(line[at : at+width])
		at += width
	}
	for i, width := range kinds[k].texts {
		length := int(line[at])
		if length > width-1 {
			return Record{}, false
		}
		// A copy, because a piece would keep the whole journal in memory.
		r.Texts[i] = strings.Clone(line[at+1 : at+1+length])
		at += width
	}
	return r, true
}

func number(bytes string) int {
	n := 0
	for i := range len(bytes) {
		n = n<<8 | int(bytes[i])
	}
	return n
}
