package leap

import (
	"strings"

	"angelus/api"
	"angelus/civil"
)

// fault is why a text is no table's, and at which line; with it reading is given up.
type fault struct {
	line int
	code api.Errno
}

// reader is a text's lines, the number of the one that it is at, from 1 on, and that one's words.
type reader struct {
	lines []string
	line  int
	words []string
}

// table reads all lines.
func (r *reader) table() *Table {
	t := new(Table)
	r.next()
	r.start(t)
	for r.next() && r.words[0] == leapWord {
		r.leap(t)
	}
	r.end(t)
	r.must(!r.next(), api.ErrForm)
	return t
}

// next goes on to the next line that tells something; false: there is none, so that it is at the last line, as if that had no words.
func (r *reader) next() bool {
	for r.line < len(r.lines) {
		line := r.lines[r.line]
		r.line++
		if line != "" && line[0] != '#' {
			r.words = strings.Split(line, " ")
			return true
		}
	}
	r.words = nil
	return false
}

// must gives reading up, unless something holds of the line.
func (r *reader) must(holds bool, code api.Errno) {
	if !holds {
		panic(fault{r.line, code})
	}
}

// start reads from which day on a table tells, and by how much TAI is ahead there.
func (r *reader) start(t *Table) {
	words := r.behind(startWord, 2)
	t.start, t.ahead = r.day(words[0]), r.seconds(words[1])
}

// leap reads one more leap of a table.
func (r *reader) leap(t *Table) {
	words := r.behind(leapWord, 2)
	l := Leap{Day: r.day(words[0]), Step: r.step(words[1])}
	r.must(len(t.leaps) < api.MaxLeaps, api.ErrFull)
	r.must(t.takes(l.Day), api.ErrOrder)
	t.leaps = append(t.leaps, l)
}

// end reads from which day on a table doesn't tell any more.
func (r *reader) end(t *Table) {
	words := r.behind(endWord, 1)
	t.end = r.day(words[0])
	// Where a leap may be, the end may, too, but on the first day.
	r.must(t.end > t.start && t.takes(t.end), api.ErrOrder)
}

// behind answers the words behind the line's first one, which must be that one, with so many behind it.
func (r *reader) behind(first string, count int) []string {
	r.must(len(r.words) == 1+count && r.words[0] == first, api.ErrForm)
	return r.words[1:]
}

// day answers the number of the day whose date a word is.
func (r *reader) day(word string) int {
	d, ok := civil.Parse(word)
	r.must(ok, api.ErrForm)
	n, _ := d.Number()
	return n
}

// seconds answers by how much TAI is ahead.
func (r *reader) seconds(word string) int {
	r.must(word != "", api.ErrForm)
	n := 0
	for place, letter := range word {
		r.must(letter >= '0' && letter <= '9', api.ErrForm)
		// Behind another digit it is still 0 only if that was a nought.
		r.must(place == 0 || n != 0, api.ErrForm)
		n = n*10 + int(letter-'0')
		// Held against the most at each digit, so that no word is too long for a number.
		r.must(n <= mostAhead, api.ErrForm)
	}
	return n
}

// step answers the Step of a leap.
func (r *reader) step(word string) int {
	step, ok := map[string]int{moreSign: 1, lessSign: -1}[word]
	r.must(ok, api.ErrForm)
	return step
}
