// Package bits is layer 1: bits of bytes, the greatest of each byte first.
package bits

// Writer of bits. The zero Writer has none; a nil one takes none.
type Writer struct {
	bytes []byte // the last one has noughts where it isn't filled yet
	count int    // of bits
}

// Reader of bits. A nil one is a reader of no bytes that never moves.
type Reader struct {
	bytes []byte
	at    int // bits it has gone over
	over  int // noughts past the end: not at less the end, as Align tells none
}

// width takes n for the nearer end of 0 to 64.
func width(n int) int {
	if n < 0 {
		return 0
	}
	if n > 64 {
		return 64
	}
	return n
}

// mask of the bit that is at-th from the beginning, within its byte.
func mask(at int) byte {
	return 0x80 >> uint(at%8)
}

// Bit more.
func (w *Writer) Bit(b bool) {
	if w == nil {
		return
	}
	if w.count%8 == 0 {
		w.bytes = append(w.bytes, 0)
	}
	if b {
		w.bytes[w.count/8] |= mask(w.count)
	}
	w.count++
}

// Put the lowest n bits of v, the greatest first.
func (w *Writer) Put(v uint64, n int) {
	for i := width(n) - 1; i >= 0; i-- {
		w.Bit(v>>uint(i)&1 == 1)
	}
}

// Align to a byte: the noughts are there, they only come to count.
func (w *Writer) Align() {
	if w == nil {
		return
	}
	w.count = 8 * len(w.bytes)
}

// Len: how many bits.
func (w *Writer) Len() int {
	if w == nil {
		return 0
	}
	return w.count
}

// Bytes of the bits, copied, as the last one may still change.
func (w *Writer) Bytes() []byte {
	if w == nil {
		return nil
	}
	return fresh(w.bytes)
}

// New reader, of a copy: b stays its owner's, who may change it.
func New(b []byte) *Reader {
	return &Reader{bytes: fresh(b)}
}

// fresh copy of b, without room behind it.
func fresh(b []byte) []byte {
	c := make([]byte, len(b))
	copy(c, b)
	return c
}

// Bit that is next; past the end a nought.
func (r *Reader) Bit() bool {
	if r == nil {
		return false
	}
	at := r.at
	r.at++
	if at >= 8*len(r.bytes) {
		r.over++
		return false
	}
	return r.bytes[at/8]&mask(at) != 0
}

// Get the next n bits as a number, the first one the greatest.
func (r *Reader) Get(n int) uint64 {
	var v uint64
	for range width(n) {
		v <<= 1
		if r.Bit() {
			v |= 1
		}
	}
	return v
}

// Align to a byte.
func (r *Reader) Align() {
	if r == nil {
		return
	}
	r.at = (r.at + 7) / 8 * 8
}

// At: how many bits it has gone over.
func (r *Reader) At() int {
	if r == nil {
		return 0
	}
	return r.at
}

// Left: how many bits are ahead.
func (r *Reader) Left() int {
	if r == nil || r.at > 8*len(r.bytes) {
		return 0
	}
	return 8*len(r.bytes) - r.at
}

// Over: how many noughts past the end it told.
func (r *Reader) Over() int {
	if r == nil {
		return 0
	}
	return r.over
}
