package mutator

import (
	"midden/api"
	"midden/census"
	"midden/heap"
	"midden/image"
)

// operation: a kind, what it does to a heap, and how a reply without an error is told.
type operation struct {
	kind int
	does func(h *heap.Heap, o api.Op) api.Reply
	told func(r api.Reply) string
}

// operations tells all that there are. What stands behind a kind looks at no more of an operation than the kind names.
func operations() []operation {
	return []operation{
		{api.OpPush, func(h *heap.Heap, o api.Op) api.Reply { return done(h.Push(o.Thread, o.A)) }, tellOK},
		{api.OpPop, func(h *heap.Heap, o api.Op) api.Reply { return done(h.Pop(o.Thread)) }, tellOK},
		{api.OpAlloc, alloc, tellWord},
		{api.OpLoad, func(h *heap.Heap, o api.Op) api.Reply { return done(h.Load(o.Thread, o.A, o.B, o.C)) }, tellOK},
		{api.OpStore, func(h *heap.Heap, o api.Op) api.Reply { return done(h.Store(o.Thread, o.A, o.B, o.C)) }, tellOK},
		{api.OpGet, get, tellWord},
		{api.OpPut, func(h *heap.Heap, o api.Op) api.Reply { return done(h.Put(o.Thread, o.A, o.B, o.Word)) }, tellOK},
		{api.OpCopy, func(h *heap.Heap, o api.Op) api.Reply { return done(h.Copy(o.Thread, o.A, o.B)) }, tellOK},
		{api.OpClear, func(h *heap.Heap, o api.Op) api.Reply { return done(h.Copy(o.Thread, o.A, null)) }, tellOK},
		{api.OpSame, same, tellYes},
		{api.OpHash, hash, tellWord},
		{api.OpShape, shape, tellShape},
		{api.OpOpen, open, tellNumber},
		{api.OpFetch, func(h *heap.Heap, o api.Op) api.Reply { return done(h.Fetch(o.Thread, o.A, o.B)) }, tellOK},
		{api.OpClose, func(h *heap.Heap, o api.Op) api.Reply { return done(h.Close(o.A)) }, tellOK},
		{api.OpTake, func(h *heap.Heap, o api.Op) api.Reply { return done(h.Take(o.Thread, o.A)) }, tellOK},
		{api.OpMinor, cycle(api.CycleMinor), tellOK},
		{api.OpAll, cycle(api.CycleAll), tellOK},
		{api.OpMajor, cycle(api.CycleMajor), tellOK},
		{api.OpCensus, func(h *heap.Heap, _ api.Op) api.Reply { return api.Reply{Census: census.Of(h)} }, tellCensus},
		{api.OpAudit, func(h *heap.Heap, _ api.Op) api.Reply { return api.Reply{Audit: census.Audit(h)} }, tellAudit},
		{api.OpSites, func(h *heap.Heap, _ api.Op) api.Reply { return api.Reply{Sites: census.Sites(h, false)} }, tellSites},
		{api.OpDump, func(h *heap.Heap, _ api.Op) api.Reply { return api.Reply{Bytes: image.Save(h)} }, tellImage},
		{api.OpRetained, retained, tellNumber},
		{api.OpPath, path, tellPath},
	}
}

// operationOf tells the operation of a kind; of a kind that is none, one that is refused whatever it asks for.
func operationOf(kind int) operation {
	for _, x := range operations() {
		if x.kind == kind {
			return x
		}
	}
	return operation{kind, refuse, tellOK}
}

func refuse(*heap.Heap, api.Op) api.Reply { return api.Reply{Err: api.ErrMutOp} }

// null is a slot's number that stands for null.
const null = -1

// done tells the reply of a call that answers a report alone.
func done(r api.Report, e api.Errno) api.Reply { return api.Reply{Err: e, Cycles: r.Cycles} }

func alloc(h *heap.Heap, o api.Op) api.Reply {
	r, e := h.Alloc(o.Thread, o.A, o.B, o.C, o.D, o.E)
	return api.Reply{Err: e, Word: r.Serial, Cycles: r.Cycles}
}

func get(h *heap.Heap, o api.Op) api.Reply {
	w, e := h.Get(o.Thread, o.A, o.B)
	return api.Reply{Err: e, Word: w}
}

func same(h *heap.Heap, o api.Op) api.Reply {
	yes, e := h.Same(o.Thread, o.A, o.B)
	return api.Reply{Err: e, Yes: yes}
}

func hash(h *heap.Heap, o api.Op) api.Reply {
	head, e := h.Shape(o.Thread, o.A)
	return api.Reply{Err: e, Word: head.Serial}
}

func shape(h *heap.Heap, o api.Op) api.Reply {
	head, e := h.Shape(o.Thread, o.A)
	if e != api.OK {
		return api.Reply{Err: e}
	}
	return api.Reply{Nums: []int{head.Kind, head.Ptrs, head.Raws, head.Site}}
}

func open(h *heap.Heap, o api.Op) api.Reply {
	handle, r, e := h.Open(o.Thread, o.A)
	return api.Reply{Err: e, Num: handle, Cycles: r.Cycles}
}

// cycle tells what runs a forced cycle.
func cycle(which int) func(*heap.Heap, api.Op) api.Reply {
	return func(h *heap.Heap, _ api.Op) api.Reply { return done(h.Cycle(which)) }
}

// restore is image.Load, for Load, where another thing has that package's name.
func restore(c api.Config, b []byte) (*heap.Heap, int, api.Errno) { return image.Load(c, b) }
