package prim

import (
	"reredos/api"
	"reredos/mould"
	"reredos/scalar"
	"reredos/seek"
	"reredos/spread"
)

// ofOne is what signs mean of one array. Those that spread all mean this sign's own.
func (s Sign) ofOne() map[Sign]func(v api.Val) (api.Val, api.Errno) {
	means := map[Sign]func(v api.Val) (api.Val, api.Errno){
		"!": mould.Iota,
		"#": mould.Tally,
		"=": mould.Shape,
		",": mould.Ravel,
		"|": mould.Reverse,
		"+": mould.Flip,
		"<": seek.Up,
		">": seek.Down,
		"&": seek.Where,
		"?": seek.Unique,
	}
	for _, op := range scalar.Monads() {
		means[Sign(op)] = s.spreadOne
	}
	return means
}

// ofTwo is what they mean of two.
func (s Sign) ofTwo() map[Sign]func(v, w api.Val) (api.Val, api.Errno) {
	means := map[Sign]func(v, w api.Val) (api.Val, api.Errno){
		"#": mould.Reshape,
		"^": mould.Take,
		"$": mould.Drop,
		",": mould.Join,
		"?": seek.Find,
		"@": seek.Index,
	}
	for _, op := range scalar.Dyads() {
		means[Sign(op)] = s.spreadTwo
	}
	return means
}

func (s Sign) spreadOne(v api.Val) (api.Val, api.Errno) {
	return spread.Monad(string(s), v)
}

func (s Sign) spreadTwo(v, w api.Val) (api.Val, api.Errno) {
	return spread.Dyad(string(s), v, w)
}
