package script_test

import (
	"testing"

	"midden/api"
	"midden/script"
)

const example = head + `push 3
repeat 2
alloc 0 plain 1 0 7
@1 store 0 0 null
end
put 0 0 18446744073709551615
major
`

func exampleOps() []api.Op {
	alloc := api.Op{Kind: api.OpAlloc, A: 0, B: 1, C: 1, D: 0, E: 7}
	store := api.Op{Kind: api.OpStore, Thread: 1, A: 0, B: 0, C: -1}
	return []api.Op{{Kind: api.OpPush, A: 3}, alloc, store, alloc, store, {Kind: api.OpPut, Word: lastWord}, {Kind: api.OpMajor}}
}

func TestExample1(t *testing.T) {
	s, err := script.Parse(example)
	if err != nil {
		t.Fatalf("P18.7: %v", err)
	}
	want(t, "P18.3: the example's configuration", s.Config, config())
	want(t, "P18.7: the example", s.Ops, exampleOps())
	text, err := script.Print(s)
	want(t, "P18.8: the example", []any{text, err}, []any{head + `push 3
alloc 0 plain 1 0 7
@1 store 0 0 null
alloc 0 plain 1 0 7
@1 store 0 0 null
put 0 0 18446744073709551615
major
`, nil})
	l := ops(example)
	want(t, "P18.9: the example's operations", behind(l), exampleOps())
	want(t, "P18.9: the example's lines", lines(l), []int{2, 4, 5, 4, 5, 7, 8})
}

func TestExample2(t *testing.T) {
	for _, x := range []struct {
		text string
		at   int
		e    api.Errno
	}{
		{"push", 4, api.ErrScriptEnd},
		{"push 03", 5, api.ErrScriptNumber},
		{"push 3 4", 7, api.ErrScriptMore},
		{"pusch 3", 0, api.ErrScriptWord},
		{"@1 major", 0, api.ErrScriptWord},
		{"@x pop", 0, api.ErrScriptNumber},
		{"end", 0, api.ErrScriptWord},
		{"repeat 0", 7, api.ErrScriptNumber},
		{"repeat 2", 8, api.ErrScriptEnd},
		{"alloc 0 hard 1 0 7", 8, api.ErrScriptNumber},
	} {
		faults(t, "the second example", head+x.text, 2, x.at, x.e)
	}
}

func TestExample3(t *testing.T) {
	faults(t, "P18.3: the empty text", "", 1, 0, api.ErrScriptEnd)
	faults(t, "P18.3: no configuration", "push 3", 1, 0, api.ErrScriptWord)
}
