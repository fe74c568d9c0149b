package code

import (
	"bytes"
	"pollard/api"
	"pollard/enc"
	"slices"
	"testing"
)

func TestWriter(t *testing.T) {
	var w Writer
	if len(w.Bytes()) != 0 {
		t.Error("a new writer has bytes")
	}
	id := api.ID{1, 2, 3}
	w.Raw(9, 8)
	w.Raw()
	w.Nums(300, 5)
	w.Stamps(api.Stamp{T: 7, R: 200}, api.Stamp{T: 1, R: 2})
	w.Text("ab")
	w.ID(id)
	want := append([]byte{9, 8, 172, 2, 5, 7, 200, 1, 1, 2, 2, 'a', 'b'}, id[:]...)
	if !bytes.Equal(w.Bytes(), want) {
		t.Errorf("%v instead of %v", w.Bytes(), want)
	}
}

func TestWriterKeepsNoArgument(t *testing.T) {
	memory := []byte{1, 2, 3, 4}
	var w Writer
	w.Raw(memory[:2]...)
	w.Raw(5)
	memory[0] = 9
	if !bytes.Equal(w.Bytes(), []byte{1, 2, 5}) || !bytes.Equal(memory, []byte{9, 2, 3, 4}) {
		t.Error("the writer shares memory with its argument")
	}
}

func TestStamp(t *testing.T) {
	for _, s := range []api.Stamp{{}, {T: 0, R: 1}, {T: 5, R: 300}, {T: api.MaxTime, R: api.MaxReplica}} {
		var w Writer
		w.Stamps(s)
		if r := enc.Read(w.Bytes()); Stamp(r) != s || !r.Done() {
			t.Errorf("%v is not read back", s)
		}
	}
	for _, s := range []api.Stamp{{T: api.MaxTime + 1, R: 1}, {T: 1, R: api.MaxReplica + 1}} {
		var w Writer
		w.Stamps(s)
		if r := enc.Read(w.Bytes()); Stamp(r).R != 0 || r.Good() {
			t.Errorf("%v is read", s)
		}
	}
}

func TestList(t *testing.T) {
	digit := func(r *enc.Reader) int64 { return r.Num(9) }
	r := enc.Read([]byte{3, 7, 8, 9, 0, 5})
	if got := List(r, 3, digit); !slices.Equal(got, []int64{7, 8, 9}) {
		t.Errorf("%v", got)
	}
	if got := List(r, 3, digit); len(got) != 0 || r.Left() != 1 {
		t.Errorf("%v is an empty list", got)
	}
	for _, b := range [][]byte{{}, {4, 1, 1, 1, 1}, {3, 1, 10, 1}, {3, 1, 1}} {
		r := enc.Read(b)
		if List(r, 3, digit); r.Good() {
			t.Errorf("%v is read as a list", b)
		}
	}
}

// A number of elements that aren't there costs no time and no memory.
func TestListWithoutItsElements(t *testing.T) {
	calls := 0
	List(enc.Read(enc.Num(nil, 1<<62)), 1<<62, func(r *enc.Reader) int64 {
		calls++
		return r.Num(9)
	})
	if calls != 1 {
		t.Errorf("%d elements are read", calls)
	}
}
