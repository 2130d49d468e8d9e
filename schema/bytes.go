package schema

import (
	"slices"

	"ecdysis/api"
	"ecdysis/field"
	"ecdysis/kind"
	"ecdysis/table"
	"ecdysis/word"
)

// The widths of the numbers in the bytes of a catalogue: broad of how many bytes fields have, narrow of all others.
const (
	narrow = 1
	broad  = 2
)

// The From of a move that takes no field of the version ahead, and what stands for it in bytes.
const (
	fresh     = -1
	freshByte = 255
)

// reader takes bytes from the front of others; once these were wrong, what it takes is zero values.
type reader struct {
	rest  []byte
	wrong bool
}

// Encode is the bytes of the catalogue.
func (c *Catalogue) Encode() []byte {
	names := c.Names()
	out := numberBytes(narrow, len(names))
	for _, name := range names {
		h := c.types[name]
		out = append(out, pieceBytes(narrow, []byte(name))...)
		out = append(out, numberBytes(narrow, h.oldest)...)
		out = append(out, numberBytes(narrow, h.newest())...)
		for _, t := range h.since(h.oldest) {
			out = append(out, versionBytes(t)...)
		}
	}
	return out
}

// Decode is the catalogue that has these bytes.
func Decode(b []byte) (*Catalogue, api.Errno) {
	c, r := New(), &reader{rest: b}
	count := r.number(narrow)
	r.need(count <= api.MaxTypes)
	last := ""
	for range count {
		name := string(r.piece(narrow))
		// Rising names are asked, as Encode tells them so; no name is below the empty text.
		r.need(field.Name(name) && name > last)
		c.types[name] = r.history()
		last = name
	}
	if r.wrong || len(r.rest) > 0 {
		return nil, api.ErrSchemaForm
	}
	return c, api.OK
}

// versionBytes is the bytes of a version's fields, and of the moves that made it: of the oldest one there are none.
func versionBytes(t table.Table) []byte {
	// No error can come here or below, as what a catalogue has is right.
	l, _ := field.Encode(t.New)
	out := pieceBytes(broad, l)
	for i, m := range t.Moves {
		if m.From != fresh {
			out = append(out, numberBytes(narrow, m.From)...)
			continue
		}
		value, _ := kind.Encode(m.Default, t.New[i])
		out = append(out, numberBytes(narrow, freshByte)...)
		out = append(out, value...)
	}
	return out
}

// pieceBytes is how many bytes b has, and these.
func pieceBytes(width int, b []byte) []byte {
	return append(numberBytes(width, len(b)), b...)
}

// numberBytes is a number as bytes of a catalogue have it.
func numberBytes(width, n int) []byte {
	b, _ := word.Put(nil, width, uint64(n))
	return b
}

// history takes the versions of a type.
func (r *reader) history() history {
	oldest, newest := r.number(narrow), r.number(narrow)
	r.need(oldest >= first && oldest <= newest && newest <= api.MaxVersions)
	h := begin(oldest, r.fields())
	for range newest - oldest {
		h.versions = append(h.versions, r.table(h.fields()))
	}
	return h
}

// table takes a version that is made of one with these fields.
func (r *reader) table(old []api.Field) table.Table {
	t := table.Table{Old: slices.Clone(old), New: r.fields()}
	for _, f := range t.New {
		t.Moves = append(t.Moves, r.move(f))
	}
	r.need(table.Right(t))
	return t
}

// fields takes a version's fields.
func (r *reader) fields() []api.Field {
	l, e := field.Decode(r.piece(broad))
	r.need(e == api.OK)
	return l
}

// move takes the move that makes a field.
func (r *reader) move(to api.Field) table.Move {
	n := r.number(narrow)
	if n != freshByte {
		return table.Move{From: n}
	}
	// Where no value is read it is a zero one, and no right table has that.
	v, _ := kind.Decode(r.take(kind.Long(to)), to)
	return table.Move{From: fresh, Default: v}
}

// piece takes how many bytes there are, and these.
func (r *reader) piece(width int) []byte { return r.take(r.number(width)) }

// number takes a number of that width.
func (r *reader) number(width int) int {
	n, _ := word.Get(r.take(width), 0, width)
	return int(n)
}

// take takes n bytes.
func (r *reader) take(n int) []byte {
	r.need(n <= len(r.rest))
	if r.wrong {
		return nil
	}
	b := r.rest[:n:n]
	r.rest = r.rest[n:]
	return b
}

// need says that the bytes are wrong, unless ok.
func (r *reader) need(ok bool) { r.wrong = r.wrong || !ok }
