package sym

import (
	"cmp"
	"iter"

	"ponder/api"
	"ponder/book"
	"ponder/order"
)

// Table holds the symbols that are known, at most room of them.
type Table struct {
	known    *order.Set[api.Sym]
	greatest *book.Map[capital, int] // of the numbers of the known identifiers with a letter
	room     int
}

// capital is the letter of an identifier.
type capital byte

// Compare goes by the alphabet.
func (a capital) Compare(b capital) int {
	return cmp.Compare(a, b)
}

// New makes a table that knows nothing and has room for room symbols.
func New(room int) (*Table, api.Errno) {
	if room < 1 || room > api.MaxSyms {
		return nil, api.ErrArg
	}
	return &Table{known: order.New[api.Sym](), greatest: book.New[capital, int](), room: room}, api.OK
}

// Put makes all of the symbols l known, or none of them.
func (t *Table) Put(l ...api.Sym) api.Errno {
	for _, s := range l {
		if !Valid(s) {
			return api.ErrForm
		}
	}
	more := order.Less(order.New(l...), t.known)
	if t.Len()+more.Len() > t.room {
		return api.ErrSyms
	}
	for s := range more.All() {
		t.add(s)
	}
	return api.OK
}

// add makes the valid symbol s known; there must be room for it.
func (t *Table) add(s api.Sym) {
	t.known.Put(s)
	if s.Kind == api.Id && s.N >= t.Next(s.Text[0]) {
		t.greatest.Put(capital(s.Text[0]), s.N)
	}
}

// Fresh makes the identifier with this letter and the number Next known, and answers it.
func (t *Table) Fresh(letter byte) (api.Sym, api.Errno) {
	n := t.Next(letter)
	switch {
	case n == 0:
		return api.Sym{}, api.ErrArg
	case t.Len() >= t.room || n > api.MaxSeq:
		return api.Sym{}, api.ErrSyms
	}
	s := api.Sym{Kind: api.Id, Text: string(rune(letter)), N: n}
	t.add(s)
	return s, api.OK
}

// Has tells whether s is known.
func (t *Table) Has(s api.Sym) bool {
	_, there := t.known.Get(s)
	return there
}

// Len answers how many symbols are known.
func (t *Table) Len() int {
	return t.known.Len()
}

// Next answers the number after the greatest one of the known identifiers with this letter; 0 if it is no letter of identifiers.
func (t *Table) Next(letter byte) int {
	if !isCapital(letter) {
		return 0
	}
	n, _ := t.greatest.Get(capital(letter))
	return n + 1
}

// All yields the known symbols in order, as they are when the loop begins.
func (t *Table) All() iter.Seq[api.Sym] {
	return t.known.All()
}

// Clone makes another table in the same state.
func (t *Table) Clone() *Table {
	return &Table{known: t.known.Clone(), greatest: t.greatest.Clone(), room: t.room}
}
