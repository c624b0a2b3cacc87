package eval

import (
	"slices"

	"rendezvous/conv"
	"rendezvous/heap"
	"rendezvous/text"
)

// Kinds of jumps.
const (
	breaks = 1 + iota
	continues
	returns
	throws
	stops
)

// jump is the way in which a node ends that does not end normally: a break or a
// continue, with a name or without one; a return or a throw, with a value; or a
// stop, which nothing holds up. A normal end is nil.
type jump struct {
	kind int
	name string
	v    heap.Value
}

func (j *jump) is(kind int) bool { return j != nil && j.kind == kind }

// isBreak reports whether j is a break with this name, or without any.
func (j *jump) isBreak(name string) bool { return j.is(breaks) && j.name == name }

// goesOn reports whether a loop with these labels continues after a statement
// that has ended so.
func (j *jump) goesOn(labels []string) bool {
	return j == nil || j.kind == continues && (j.name == "" || slices.Contains(labels, j.name))
}

// stop stops the run.
func (r *run) stop(kind int) *jump {
	r.end = End{Kind: kind}
	return &jump{kind: stops}
}

// raise returns what comes of a signal: nothing, a throw, or a stop.
func (r *run) raise(signal int) *jump {
	switch signal {
	case conv.Type:
		return r.throw("TypeError")
	case conv.Range:
		return r.throw("RangeError")
	case conv.Reference:
		return r.throw("ReferenceError")
	case conv.Syntax:
		return r.throw("SyntaxError")
	case conv.Exit:
		return r.stop(Exited)
	}
	return nil
}

// fail is raise for those that would return a value.
func (r *run) fail(signal int) (heap.Value, *jump) {
	return heap.Value{}, r.raise(signal)
}

// throw throws a new error with this name, and without a message.
func (r *run) throw(name string) *jump {
	v, j := r.newError(name, nil)
	if j != nil {
		return j
	}
	return &jump{kind: throws, v: v}
}

// newError makes an error.
func (r *run) newError(name string, message []uint16) (heap.Value, *jump) {
	return r.make(heap.Cell{Kind: heap.Error, Name: name, This: conv.Str(message)})
}

// ascii returns the text that consists of the bytes of s.
func ascii(s string) heap.Value { return conv.Str(text.Ascii(s)) }
