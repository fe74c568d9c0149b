package pack

import (
	"bytes"
	"cmp"
	"slices"

	"pollard/api"
	"pollard/code"
	"pollard/delta"
	"pollard/enc"
	"pollard/sha"
)

const (
	pieceSize = 8
	// maxPieces is by how many pieces an object is found as a base: enough of them to meet what is alike, and few
	// enough that many great objects cost little memory.
	maxPieces = 64
	// maxRatio is how many times as long as an object its base can be: so the time for all deltas is linear.
	maxRatio = 16
)

// Write returns a pack of some objects, of which some can be based on others that are outside.
func Write(objects [][]byte, outside [][]byte) ([]byte, api.Errno) {
	if len(objects) > maxEntries {
		return nil, api.ErrMany
	}
	if slices.ContainsFunc(objects, func(x []byte) bool { return len(x) > maxText }) {
		return nil, api.ErrLong
	}
	known := distinct{}
	inner, ok := known.add(objects)
	outer, good := known.add(outside)
	if !ok || !good {
		return nil, api.ErrBad
	}
	p := packer{found: map[piece]int{}}
	for _, o := range outer {
		p.learn(base{named: o, outside: true})
	}
	slices.SortFunc(inner, longFirst)
	p.out.Raw([]byte(startMark)...)
	p.out.Nums(int64(len(inner)))
	for i, o := range inner {
		p.add(i, o)
	}
	b := p.out.Bytes()
	return enc.Four(b, enc.Sum(b)), api.OK
}

// named is an object with its ID.
type named struct {
	id     api.ID
	object []byte
}

// longFirst is the order of the entries: what is added to a text makes it longer, so the texts that hold most of the
// others come first.
func longFirst(a, b named) int {
	return cmp.Or(cmp.Compare(len(b.object), len(a.object)), sha.Cmp(a.id, b.id))
}

// distinct is objects by their IDs.
type distinct map[api.ID][]byte

// add returns those of a list that were not known yet, and whether no two different ones have the same ID.
func (d distinct) add(list [][]byte) (added []named, ok bool) {
	for _, object := range list {
		id := sha.Sum(object)
		old, exists := d[id]
		if !exists {
			d[id] = object
			added = append(added, named{id, object})
		} else if !bytes.Equal(old, object) {
			return nil, false
		}
	}
	return added, true
}

// base is an object on which others can be based.
type base struct {
	named
	outside bool
	entry   int // its place in the pack, unless it is outside
	chain   int
}

// piece is some bytes of an object.
type piece [pieceSize]byte

// pieceAt returns the piece that starts at a place.
func pieceAt(b []byte, at int) (p piece) {
	copy(p[:], b[at:])
	return p
}

// packer is a pack that is being written.
type packer struct {
	out   code.Writer
	bases []base
	found map[piece]int // which base was the first one that has a piece
}

// learn makes an object a base. Its pieces are spread over all of it.
func (p *packer) learn(b base) {
	step := max(pieceSize, len(b.object)/maxPieces)
	for at := 0; at+pieceSize <= len(b.object); at += step {
		x := pieceAt(b.object, at)
		if _, exists := p.found[x]; !exists {
			p.found[x] = len(p.bases)
		}
	}
	p.bases = append(p.bases, b)
}

// add writes the entry of an object, in the shorter one of two ways.
func (p *packer) add(at int, o named) {
	text, chain := wholeEntry(o.object), 0
	if b, ok := p.similar(o.object); ok {
		short := deltaEntry(b, at, o.object)
		if len(short) < len(text) {
			text, chain = short, b.chain+1
		}
	}
	p.out.Raw(text...)
	if chain < api.MaxChain {
		p.learn(base{named: o, entry: at, chain: chain})
	}
}

// similar returns the base that has most of the pieces of an object, and whether there is one.
func (p *packer) similar(object []byte) (base, bool) {
	shared := map[int]int{}
	for at := 0; at+pieceSize <= len(object); at++ {
		i, exists := p.found[pieceAt(object, at)]
		if exists && len(p.bases[i].object)/maxRatio <= len(object) {
			shared[i]++
		}
	}
	best := -1
	for i, n := range shared {
		if best < 0 || n > shared[best] || n == shared[best] && i < best {
			best = i
		}
	}
	if best < 0 {
		return base{}, false
	}
	return p.bases[best], true
}

// wholeEntry returns an entry with the bytes of an object.
func wholeEntry(object []byte) []byte {
	var w code.Writer
	w.Nums(wholeKind)
	w.Text(string(object))
	return w.Bytes()
}

// deltaEntry returns an entry with the difference of an object from a base.
func deltaEntry(b base, at int, object []byte) []byte {
	var w code.Writer
	if b.outside {
		w.Nums(outerKind)
		w.ID(b.id)
	} else {
		w.Nums(innerKind, int64(at-b.entry))
	}
	diff, _ := delta.Make(b.object, object) // no object is too long for it
	w.Text(string(diff))
	return w.Bytes()
}
