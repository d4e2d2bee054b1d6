package buffer

import (
	"midden/api"
	"midden/arena"
	"midden/cell"
)

// piece: words of eden, one behind the other. One without words is at 0.
type piece struct {
	at, words int
}

// taken takes a piece at eden's top, which has room for it.
func taken(a *arena.Arena, words int) piece {
	at, _ := a.Take(api.SpaceEden, words)
	return piece{at, words}
}

// lay lays an object's words at the piece's beginning and tells where; what is left is the piece from then on.
func (p *piece) lay(a *arena.Arena, object []uint64) int {
	at := p.at
	for i, w := range object {
		a.SetWord(at+i, w)
	}
	p.drop(len(object))
	return at
}

func (p *piece) drop(words int) {
	p.at += words
	p.words -= words
	if p.words == 0 {
		p.at = 0
	}
}

// fill makes the piece a filler, without which eden's walk would fail at it.
func (p *piece) fill(a *arena.Arena) {
	if p.words > 0 {
		a.SetWord(p.at, cell.Filler(p.words))
	}
}

// object tells the words of a new object.
func object(meta, serial uint64) []uint64 {
	words := make([]uint64, cell.Size(meta))
	copy(words, []uint64{meta, serial})
	return words
}
