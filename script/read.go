package script

import (
	"math"
	"strings"

	"midden/api"
)

const (
	wordHeap   = "heap"
	wordRepeat = "repeat"
	wordEnd    = "end"
	signThread = "@"
)

// never: the last line of a part that hasn't ended.
const never = math.MaxInt

// step: an operation, and the number of the line on which it stands.
type step struct {
	line int
	op   api.Op
}

// part: an operation outside of repeats, or a repeat with its body: what is done, how often, and on which line it is over.
type part struct {
	steps []step
	times int
	over  int
}

// give gives the operations of a part to yield, until that has enough.
func (p *part) give(yield func(int, api.Op) bool) bool {
	for range p.times {
		for _, s := range p.steps {
			if !yield(s.line, s.op) {
				return false
			}
		}
	}
	return true
}

// unfolded tells the operations of parts as one list.
func unfolded(parts []part) []api.Op {
	var list []api.Op
	for _, p := range parts {
		p.give(func(_ int, o api.Op) bool {
			list = append(list, o)
			return true
		})
	}
	return list
}

// reader: what has been read of a text. ops are the operations of the parts that are over, repeats unfolded.
type reader struct {
	configured bool
	config     api.Config
	parts      []part
	ops        int
}

// read goes through a text up to its first fault. What was read ahead of it is told beside the error, too.
func read(text string) (*reader, error) {
	r := &reader{}
	last := &line{number: 1}
	if len(text) > api.MaxText {
		return r, last.fault(0, api.ErrScriptLong)
	}
	for i, s := range strings.Split(text, "\n") {
		last = newLine(i+1, s)
		if err := r.line(last); err != nil {
			return r, err
		}
	}
	if !r.configured || r.open() != nil {
		return r, last.early()
	}
	return r, nil
}

// open tells the repeat that hasn't ended; nil, if there is none.
func (r *reader) open() *part {
	if n := len(r.parts); n > 0 && r.parts[n-1].over == never {
		return &r.parts[n-1]
	}
	return nil
}

func (r *reader) line(l *line) error {
	if len(l.words) == 0 {
		return nil
	}
	if !r.configured {
		return r.heap(l)
	}
	first, _ := l.take()
	switch first.text {
	case wordRepeat:
		return r.repeat(l, first)
	case wordEnd:
		return r.end(l, first)
	}
	return r.operation(l, first)
}

func (r *reader) heap(l *line) error {
	if err := l.takeCertain(wordHeap); err != nil {
		return err
	}
	places := fields(&r.config)
	for i, name := range settings {
		if name != "" {
			if err := l.takeCertain(name); err != nil {
				return err
			}
		}
		n, err := l.takeNumber(-mostNumber, mostNumber)
		if err != nil {
			return err
		}
		*places[i] = n
	}
	r.configured = true
	return l.done()
}

func (r *reader) repeat(l *line, first word) error {
	if r.open() != nil {
		return l.fault(first.at, api.ErrScriptWord)
	}
	n, err := l.takeNumber(1, api.MaxRepeat)
	if err != nil {
		return err
	}
	r.parts = append(r.parts, part{times: n, over: never})
	return l.done()
}

func (r *reader) end(l *line, first word) error {
	p := r.open()
	if p == nil {
		return l.fault(first.at, api.ErrScriptWord)
	}
	n := r.ops + p.times*len(p.steps)
	if n > api.MaxOps {
		return l.fault(first.at, api.ErrScriptMany)
	}
	r.ops, p.over = n, l.number
	return l.done()
}

func (r *reader) operation(l *line, first word) error {
	o, wants, err := l.begin(first)
	if err != nil {
		return err
	}
	if r.full() {
		return l.fault(first.at, api.ErrScriptMany)
	}
	for _, letter := range wants {
		if err := l.takeOperand(letter, &o); err != nil {
			return err
		}
	}
	r.lay(step{l.number, o})
	return l.done()
}

// full tells whether one operation more would be too many.
func (r *reader) full() bool {
	n := r.ops
	if p := r.open(); p != nil {
		n += len(p.steps)
	}
	return n >= api.MaxOps
}

// lay puts a step into the repeat that is open, or makes it a part.
func (r *reader) lay(s step) {
	if p := r.open(); p != nil {
		p.steps = append(p.steps, s)
		return
	}
	r.parts = append(r.parts, part{steps: []step{s}, times: 1, over: s.line})
	r.ops++
}

// begin reads an operation's line up to the name: which one it is, on which thread, and what is wanted behind the name.
func (l *line) begin(first word) (api.Op, string, error) {
	name := first
	sign, threaded := strings.CutPrefix(first.text, signThread)
	if threaded {
		var err error
		if name, err = l.take(); err != nil {
			return api.Op{}, "", err
		}
	}
	x, ok := rowNamed(name.text)
	if !ok {
		return api.Op{}, "", l.fault(name.at, api.ErrScriptWord)
	}
	o := api.Op{Kind: x.kind}
	if threaded {
		if !x.thread {
			return api.Op{}, "", l.fault(first.at, api.ErrScriptWord)
		}
		if o.Thread, ok = number(sign); !ok {
			return api.Op{}, "", l.fault(first.at, api.ErrScriptNumber)
		}
	}
	return o, x.wants, nil
}

// takeOperand takes the next word, which must be what the letter wants, into the operation.
func (l *line) takeOperand(letter rune, o *api.Op) error {
	w, err := l.take()
	if err != nil {
		return err
	}
	ok := false
	if letter == bitsW {
		o.Word, ok = bits(w.text)
	} else {
		*field(o, letter), ok = operand(letter, w.text)
	}
	if !ok {
		return l.fault(w.at, api.ErrScriptNumber)
	}
	return nil
}

// operand reads a number, or its name where the letter allows one.
func operand(letter rune, text string) (int, bool) {
	if n, ok := numberNamed(letter, text); ok {
		return n, true
	}
	return number(text)
}
