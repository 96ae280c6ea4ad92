package crc

// Digest takes bytes piece by piece.
type Digest struct {
	sum    uint32
	length int
}

// New is a digest of nothing yet.
func New() *Digest { return &Digest{} }

// Write puts bytes behind those that were written.
func (d *Digest) Write(b []byte) {
	if d == nil {
		return
	}
	d.sum = Update(d.sum, b)
	d.length += len(b)
}

// Sum is the check sum of all that was written.
func (d *Digest) Sum() uint32 {
	if d == nil {
		return 0
	}
	return d.sum
}

// Len is how many bytes were written.
func (d *Digest) Len() int {
	if d == nil {
		return 0
	}
	return d.length
}

// Reset begins anew.
func (d *Digest) Reset() {
	if d != nil {
		*d = Digest{}
	}
}
