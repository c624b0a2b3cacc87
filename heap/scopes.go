package heap

// Declare adds a Slot after the others, unless there is one with this name.
func (h *Heap) Declare(scope int, name string, v Value, ready, fixed bool) bool {
	c := h.at(scope)
	if c == nil || c.names.has(name) {
		return false
	}
	c.names[name] = len(c.Slots)
	c.Slots = append(c.Slots, Slot{Name: name, V: cloned(v), Ready: ready, Fixed: fixed})
	return true
}

// Look returns the Slot with this name of the nearest cell along the Scopes that
// has one, and the number of that cell.
func (h *Heap) Look(scope int, name string) (Slot, int, bool) {
cells:
	// As in Find, Scopes may lead round.
	for range h.cells {
		c := h.at(scope)
		switch {
		case c == nil:
			break cells
		case c.names.has(name):
			return clonedSlot(c.Slots[c.names[name]]), scope, true
		}
		scope = c.Scope
	}
	return Slot{}, Outside, false
}

// Give sets the value of a Slot of the cell itself, and whether it is ready.
func (h *Heap) Give(scope int, name string, v Value, ready bool) bool {
	c := h.at(scope)
	if c == nil || !c.names.has(name) {
		return false
	}
	slot := &c.Slots[c.names[name]]
	slot.V, slot.Ready = cloned(v), ready
	return true
}
