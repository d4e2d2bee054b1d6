package script

import (
	"strconv"
	"strings"

	"midden/api"
)

// write tells the text of a script; false, if there is none. Whether it is read as the script is another question.
func write(s api.Script) (string, bool) {
	if len(s.Ops) > api.MaxOps {
		return "", false
	}
	var b strings.Builder
	writeLine(&b, configWords(s.Config))
	for _, o := range s.Ops {
		words, ok := opWords(o)
		if !ok {
			return "", false
		}
		writeLine(&b, words)
	}
	return b.String(), true
}

func writeLine(b *strings.Builder, words []string) {
	b.WriteString(strings.Join(words, " "))
	b.WriteString("\n")
}

// configWords tells the words of a configuration's line.
func configWords(c api.Config) []string {
	words := []string{wordHeap}
	places := fields(&c)
	for i, name := range settings {
		if name != "" {
			words = append(words, name)
		}
		words = append(words, strconv.Itoa(*places[i]))
	}
	return words
}

// opWords tells the words of an operation's line; false, if it is none.
func opWords(o api.Op) ([]string, bool) {
	x, ok := rowOf(o.Kind)
	if !ok {
		return nil, false
	}
	var words []string
	if o.Thread != 0 && x.thread {
		words = append(words, signThread+strconv.Itoa(o.Thread))
	}
	words = append(words, x.name)
	for _, letter := range x.wants {
		words = append(words, operandWord(letter, o))
	}
	return words, true
}

// operandWord tells the word of what a letter wants.
func operandWord(letter rune, o api.Op) string {
	if letter == bitsW {
		return strconv.FormatUint(o.Word, 10)
	}
	n := *field(&o, letter)
	if name, ok := nameOf(letter, n); ok {
		return name
	}
	return strconv.Itoa(n)
}
