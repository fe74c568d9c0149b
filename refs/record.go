package refs

import (
	"pollard/api"
	"pollard/code"
	"pollard/enc"
)

const (
	maxHeader = 9 + 4                            // bytes before a payload: a number, and a checksum
	maxName   = len(remotes) + 2*api.MaxName + 1 // bytes of the name of a ref
)

// putRecord returns the record of a transaction.
func putRecord(t Tx) []byte {
	payload := putPayload(t)
	var w code.Writer
	w.Nums(int64(len(payload)))
	w.Raw(enc.Four(nil, enc.Sum(payload))...)
	w.Raw(payload...)
	return w.Bytes()
}

// putPayload returns the payload of a transaction's record.
func putPayload(t Tx) []byte {
	var w code.Writer
	w.Nums(int64(len(t.Updates)))
	for _, u := range t.Updates {
		w.Text(u.Name)
		w.ID(u.Old)
		w.ID(u.New)
	}
	w.Text(t.Head)
	w.ID(t.At)
	return w.Bytes()
}

// firstRecord returns the transaction of the record at the start of bytes, the size of the record, and whether there is
// one. The transaction may be one that can't be performed.
func firstRecord(b []byte) (t Tx, size int, ok bool) {
	header := b[:min(len(b), maxHeader)] // all of b would be copied by each reader
	r := enc.Read(header)
	n := r.Num(int64(len(b)))
	sum := r.Four()
	start := len(header) - r.Left()
	if !r.Good() || n > int64(len(b)-start) {
		return Tx{}, 0, false
	}
	size = start + int(n)
	payload := b[start:size]
	if enc.Sum(payload) != sum {
		return Tx{}, 0, false
	}
	t, ok = getPayload(payload)
	return t, size, ok
}

// getPayload returns the transaction of a payload, and whether it is one.
func getPayload(b []byte) (Tx, bool) {
	var t Tx
	r := enc.Read(b)
	for range r.Num(maxUpdates) {
		t.Updates = append(t.Updates, Update{Name: r.Text(maxName), Old: r.Id(), New: r.Id()})
	}
	t.Head = r.Text(maxName)
	t.At = r.Id()
	return t, r.Done()
}
