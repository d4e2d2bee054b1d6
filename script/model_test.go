package script_test

import (
	"math/big"
	"regexp"
	"strings"

	"midden/api"
)

// read: what a text comes to by the chapter's words; ops is what Ops gives.
type read struct {
	script api.Script
	ops    []given
	fault  place
}

var (
	piece    = regexp.MustCompile(`[^ \t]+`)
	integer  = regexp.MustCompile(`^(0|-?[1-9][0-9]{0,12})$`)
	cardinal = regexp.MustCompile(`^(0|[1-9][0-9]*)$`)
	comment  = regexp.MustCompile(`(?s)#.*$`)
)

// modelRow: a line, with its words and where they begin.
type modelRow struct {
	number, length int
	words          []string
	at             []int
}

func modelRows(text string) []modelRow {
	var rows []modelRow
	for i, l := range strings.Split(text, "\n") {
		r := modelRow{number: i + 1, length: len(l)}
		counts := comment.ReplaceAllString(l, "")
		for _, p := range piece.FindAllStringIndex(counts, -1) {
			r.words, r.at = append(r.words, counts[p[0]:p[1]]), append(r.at, p[0])
		}
		rows = append(rows, r)
	}
	return rows
}

// modelNumber reads a number; false, if it is none.
func modelNumber(w string) (int, bool) {
	n, ok := new(big.Int).SetString(w, 10)
	if !integer.MatchString(w) || !ok || n.CmpAbs(big.NewInt(maxNumber)) > 0 {
		return 0, false
	}
	return int(n.Int64()), true
}

func modelBits(w string) (uint64, bool) {
	n, ok := new(big.Int).SetString(w, 10)
	if !cardinal.MatchString(w) || !ok || n.BitLen() > 64 {
		return 0, false
	}
	return n.Uint64(), true
}

// modelWord reads what is wanted into an operation; false, if the word may not stand there.
func modelWord(o *api.Op, wanted, w string) bool {
	if wanted == "WORD" {
		n, ok := modelBits(w)
		o.Word = n
		return ok
	}
	n, ok := modelNumber(w)
	kind := map[string]int{"plain": 1, "weak": 2, "ephemeron": 3, "final": 4}[w]
	switch {
	case wanted == "KIND" && kind > 0:
		n, ok = kind, true
	case strings.HasSuffix(wanted, "/null") && w == "null":
		n, ok = -1, true
	}
	set(o, wanted, n)
	return ok
}

// modelKind tells the table's line of that name; nil, if there is none.
func modelKind(name string) *kindOf {
	for _, k := range table() {
		if is, _ := k.parts(); is == name {
			return &k
		}
	}
	return nil
}

// model tells what a text comes to. It is thrown the first fault.
func model(text string) (m read) {
	rows := modelRows(text)
	last := rows[len(rows)-1]
	defer func() {
		if x := recover(); x != nil {
			m.script, m.fault = api.Script{}, x.(place)
		}
	}()
	if len(text) > maxText {
		panic(place{1, 0, api.ErrScriptLong})
	}
	begun, times := false, 0
	var body []given
	for _, r := range rows {
		if len(r.words) == 0 {
			continue
		}
		switch first := r.words[0]; {
		case !begun:
			begun, m.script.Config = true, r.config()
		case first == "repeat" && times == 0:
			times, body = r.repeat(), nil
		case first == "end" && times > 0:
			if len(m.ops)+times*len(body) > maxOps {
				panic(place{r.number, r.at[0], api.ErrScriptMany})
			}
			r.upTo(1)
			for range times {
				m.ops = append(m.ops, body...)
			}
			times = 0
		case times > 0:
			body = append(body, given{r.number, r.operation(len(m.ops) + len(body))})
		default:
			m.ops = append(m.ops, given{r.number, r.operation(len(m.ops))})
		}
	}
	if !begun || times > 0 {
		panic(place{last.number, last.length, api.ErrScriptEnd})
	}
	m.script.Ops = behind(m.ops)
	return m
}

// need tells the i-th word, which must be there.
func (r modelRow) need(i int) string {
	if i >= len(r.words) {
		panic(place{r.number, r.length, api.ErrScriptEnd})
	}
	return r.words[i]
}

// upTo: there are no more than n words.
func (r modelRow) upTo(n int) {
	if len(r.words) > n {
		panic(place{r.number, r.at[n], api.ErrScriptMore})
	}
}

func (r modelRow) config() api.Config {
	var numbers []int
	for i, w := range append([]string{"heap"}, settings...) {
		n, ok := modelNumber(r.need(i))
		if w == "N" && !ok {
			panic(place{r.number, r.at[i], api.ErrScriptNumber})
		}
		if w != "N" && r.words[i] != w {
			panic(place{r.number, r.at[i], api.ErrScriptWord})
		}
		if w == "N" {
			numbers = append(numbers, n)
		}
	}
	r.upTo(1 + len(settings))
	var c api.Config
	for i, p := range placesOf(&c) {
		*p = numbers[i]
	}
	return c
}

func (r modelRow) repeat() int {
	n, ok := modelNumber(r.need(1))
	if !ok || n < 1 || n > maxRepeat {
		panic(place{r.number, r.at[1], api.ErrScriptNumber})
	}
	r.upTo(2)
	return n
}

// operation reads a line behind so many operations.
func (r modelRow) operation(ahead int) api.Op {
	at := 0
	if r.words[0][0] == '@' {
		at = 1
	}
	k := modelKind(r.need(at))
	if k == nil {
		panic(place{r.number, r.at[at], api.ErrScriptWord})
	}
	o := api.Op{Kind: k.kind}
	if at == 1 {
		thread, ok := modelNumber(r.words[0][1:])
		if !k.thread {
			panic(place{r.number, r.at[0], api.ErrScriptWord})
		}
		if !ok {
			panic(place{r.number, r.at[0], api.ErrScriptNumber})
		}
		o.Thread = thread
	}
	if ahead+1 > maxOps {
		panic(place{r.number, r.at[0], api.ErrScriptMany})
	}
	_, wanted := k.parts()
	for _, w := range wanted {
		at++
		if !modelWord(&o, w, r.need(at)) {
			panic(place{r.number, r.at[at], api.ErrScriptNumber})
		}
	}
	r.upTo(at + 1)
	return o
}
