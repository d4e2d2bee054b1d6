package script

import (
	"strings"

	"midden/api"
)

// remark: from it on nothing of a line counts.
const remark = "#"

// word: a piece of a line, and the byte at which it begins.
type word struct {
	text string
	at   int
}

// line: one of a text's lines, and those of its words that haven't been taken.
type line struct {
	number, length int
	words          []word
}

func newLine(number int, text string) *line {
	return &line{number: number, length: len(text), words: wordsOf(text)}
}

// wordsOf tells the words of a line.
func wordsOf(text string) []word {
	text, _, _ = strings.Cut(text, remark)
	var list []word
	first := 0
	for at, r := range text + " " { // so that the last word ends like the others
		if r != ' ' && r != '\t' {
			continue
		}
		if at > first {
			list = append(list, word{text[first:at], first})
		}
		first = at + 1
	}
	return list
}

// fault tells why the line can't be read, and where.
func (l *line) fault(at int, e api.Errno) error {
	return &api.Misread{Line: l.number, At: at, Err: e}
}

// early tells that something is wanted still.
func (l *line) early() error { return l.fault(l.length, api.ErrScriptEnd) }

// take tells the next word, whatever it is.
func (l *line) take() (word, error) {
	if len(l.words) == 0 {
		return word{}, l.early()
	}
	w := l.words[0]
	l.words = l.words[1:]
	return w, nil
}

// takeCertain takes the next word, which must be this one.
func (l *line) takeCertain(text string) error {
	w, err := l.take()
	if err == nil && w.text != text {
		err = l.fault(w.at, api.ErrScriptWord)
	}
	return err
}

// takeNumber takes the next word, which must be a number from least to most.
func (l *line) takeNumber(least, most int) (int, error) {
	w, err := l.take()
	if err != nil {
		return 0, err
	}
	n, ok := number(w.text)
	if !ok || n < least || n > most {
		return 0, l.fault(w.at, api.ErrScriptNumber)
	}
	return n, nil
}

// done tells whether words are left that nothing wants.
func (l *line) done() error {
	if len(l.words) > 0 {
		return l.fault(l.words[0].at, api.ErrScriptMore)
	}
	return nil
}
