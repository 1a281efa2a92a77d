package delta

import (
	"tailor/api"
	"tailor/code"
	"tailor/reader"
)

const (
	mark    = "TLR1"
	sumSize = 4
)

// form is what a patch says; its texts are pieces of the patch.
type form struct {
	oldLen, newLen int
	oldSum         string
	windows        []window
}

type window struct {
	size  int
	sum   string
	moves []api.Move
}

// readForm reads a patch, and tells whether it is one (P6).
func readForm(patch string) (form, bool) {
	r := reader.Of(patch)
	if r.Piece(len(mark)) != mark {
		return form{}, false
	}
	f := form{}
	f.oldLen = r.Number()
	f.oldSum = r.Piece(sumSize)
	f.newLen = r.Number()
	if f.newLen > api.MaxText {
		return form{}, false
	}
	for made := 0; made < f.newLen; {
		w, ok := readWindow(r, f.oldLen+made)
		if !ok || w.size > f.newLen-made {
			return form{}, false
		}
		made += w.size
		f.windows = append(f.windows, w)
	}
	return f, r.Whole()
}

// readWindow reads the window whose first byte will be here.
func readWindow(r *reader.Reader, here int) (window, bool) {
	w := window{}
	w.size = r.Number()
	w.sum = r.Piece(sumSize)
	dataLen, codesLen, addressesLen := r.Number(), r.Number(), r.Number()
	d := decoder{here: here, end: here + w.size}
	d.data = reader.Of(r.Piece(dataLen))
	d.codes = reader.Of(r.Piece(codesLen))
	d.addresses = reader.Of(r.Piece(addressesLen))
	if r.Failed() || w.size < 1 || w.size > api.MaxWindow || !d.decode() {
		return window{}, false
	}
	w.moves = d.moves
	return w, true
}

// decoder makes the instructions of a window out of its three parts.
type decoder struct {
	data, codes, addresses *reader.Reader
	known                  caches
	here, end              int
	moves                  []api.Move
}

// decode tells whether the instructions make just the window's bytes and use up its parts.
func (d *decoder) decode() bool {
	for d.codes.More() {
		first, second, _ := code.Code(d.codes.Byte()) // each byte is a code
		if !d.move(first) {
			return false
		}
		if second.Kind != api.None && !d.move(second) {
			return false
		}
	}
	return d.here == d.end && d.data.Whole() && d.codes.Whole() && d.addresses.Whole()
}

// move takes what one instruction needs, and tells whether it may be; whether all of that was there, decode sees at the end.
func (d *decoder) move(h api.Half) bool {
	m := api.Move{Kind: h.Kind, Size: h.Size}
	if m.Size == 0 {
		m.Size = d.codes.Number()
	}
	if m.Size < 1 || m.Size > d.end-d.here {
		return false
	}
	switch m.Kind {
	case api.Add:
		m.Data = d.data.Piece(m.Size)
	case api.Run:
		m.Data = d.data.Piece(1)
	case api.Copy:
		m.From = d.address(h.Mode)
		if m.From < 0 || m.From >= d.here {
			return false
		}
		d.known.keep(m.From)
	}
	d.here += m.Size
	d.moves = append(d.moves, m)
	return true
}

// address is the one that stands next, which need not be one that there is.
func (d *decoder) address(mode int) int {
	switch {
	case mode == selfMode:
		return d.addresses.Number()
	case mode == hereMode:
		return d.here - d.addresses.Number()
	case mode < sameMode:
		return d.known.near[mode-nearMode] + d.addresses.Number()
	}
	return d.known.same[(mode-sameMode)*samePlaces+d.addresses.Byte()]
}
