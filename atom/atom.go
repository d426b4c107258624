// Package atom is layer 1: see shared/doc/01-atom.md.
package atom

import (
	"slices"

	"attorney/api"
)

// Kind tells an atom's kind.
func Kind(a api.Atom) int { return int(a) / api.Span }

// Number tells an atom's number among its kind.
func Number(a api.Atom) int { return int(a) % api.Span }

func compose(kind, number int) api.Atom { return api.Atom(kind*api.Span + number) }

// May tells whether a text may be an atom's name.
func May(name string) bool {
	if len(name) == 0 || len(name) > api.MaxSay || !isLetter(name[0]) {
		return false
	}
	for i := range len(name) {
		if !isLetter(name[i]) && !isFurther(name[i]) {
			return false
		}
	}
	return true
}

func isLetter(c byte) bool { return c >= 'a' && c <= 'z' }

// isFurther tells whether a byte may stand in a name, but not at its head.
func isFurther(c byte) bool { return c >= '0' && c <= '9' || c == '-' || c == '.' }

// Table is names, and their atoms.
type Table struct{ lists }

// New makes a table.
func New() *Table { return &Table{lists{numbers: map[entry]int{}}} }

// Put tells a name's atom, and makes it.
func (t *Table) Put(kind int, name string) (api.Atom, api.Errno) {
	if !isNamed(kind) {
		return 0, api.ErrArg
	}
	if !May(name) {
		return 0, api.ErrForm
	}
	if a, known := t.Find(kind, name); known {
		return a, api.OK
	}
	if len(t.row(kind)) == api.MaxOf {
		return 0, api.ErrMany
	}
	return compose(kind, t.add(kind, name)), api.OK
}

// Find tells a name's atom.
func (t *Table) Find(kind int, name string) (api.Atom, bool) {
	number := t.number(kind, name)
	if number == 0 {
		return 0, false
	}
	return compose(kind, number), true
}

// Name tells an atom's name.
func (t *Table) Name(a api.Atom) (string, bool) {
	if a == api.D {
		return "D", true
	}
	row, number := t.row(Kind(a)), Number(a)
	if number < 1 || number > len(row) {
		return "", false
	}
	return row[number-1], true
}

// Len tells how many names of a kind there are.
func (t *Table) Len(kind int) int { return len(t.row(kind)) }

// All tells the names of a kind.
func (t *Table) All(kind int) []string { return slices.Clone(t.row(kind)) }

// Load makes a table of names.
func Load(l [api.Kinds][]string) (*Table, api.Errno) {
	t := New()
	for kind := api.Key; kind <= api.Role; kind++ {
		for _, name := range l[kind] {
			// Put would take a known name: here it would shift the numbers of those behind it.
			if _, known := t.Find(kind, name); known {
				return nil, api.ErrTwice
			}
			if _, e := t.Put(kind, name); e != api.OK {
				return nil, e
			}
		}
	}
	return t, api.OK
}
