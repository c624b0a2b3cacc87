package heap

import "slices"

// index tells where the first entry with a name stands in a list.
type index map[string]int

// indexed is a cell with the indexes of its keys and of its names, so that the
// elements of a long array need no search from the first one on.
type indexed struct {
	Cell
	keys, names index
}

// withIndexes takes the cell over.
func withIndexes(c Cell) *indexed {
	x := &indexed{Cell: c, keys: index{}, names: index{}}
	// From the last one on, so that the first of several with one name stays.
	for at, p := range slices.Backward(c.Props) {
		x.keys[spelled(p.Key)] = at
	}
	for at, s := range slices.Backward(c.Slots) {
		x.names[s.Name] = at
	}
	return x
}

// spelled returns a key as a string, which an index can be asked for.
func spelled(key []uint16) string {
	b := make([]byte, 0, 2*len(key))
	for _, unit := range key {
		b = append(b, byte(unit>>8), byte(unit))
	}
	return string(b)
}

// has reports whether an entry has this name.
func (x index) has(name string) bool {
	_, ok := x[name]
	return ok
}
