package atom

import "attorney/api"

// entry is a name of a kind.
type entry struct {
	kind int
	name string
}

// lists is the names of each kind, in the order in which they came; numbers stands beside them so that a name is found without going through its row.
type lists struct {
	rows    [api.Kinds][]string
	numbers map[entry]int
}

// isNamed tells whether atoms of a kind have names in a table.
func isNamed(kind int) bool { return kind >= api.Key && kind <= api.Role }

// row is the table's own memory: what is handed out must be a copy.
func (l *lists) row(kind int) []string {
	if !isNamed(kind) {
		return nil
	}
	return l.rows[kind]
}

// number is from 1 on, so 0 is left to say that there is no such name.
func (l *lists) number(kind int, name string) int { return l.numbers[entry{kind, name}] }

// add lays a new name behind the others of its kind.
func (l *lists) add(kind int, name string) int {
	l.rows[kind] = append(l.rows[kind], name)
	number := len(l.rows[kind])
	l.numbers[entry{kind, name}] = number
	return number
}
