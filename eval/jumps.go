package eval

import (
	"slices"

	"rendezvous/conv"
	"rendezvous/heap"
	"rendezvous/text"
)

// Kinds of jumps.
const (
	Breaks    = 1
	Continues = 2
	Returns   = 3
	Throws    = 4
	Stops     = 5
)

// Jump is the way in which a node ends that does not end normally: a break or a
// continue, with a name or without one; a return or a throw, with a value; or a
// stop, which nothing holds up. A normal end is nil.
type Jump struct {
	Kind int
	Name string
	V    heap.Value
	req  Req // of a stop
	end  End
}

// Is reports whether j is a jump of this kind.
func (j *Jump) Is(kind int) bool { return j != nil && j.Kind == kind }

// IsBreak reports whether j is a break with this name, or without any.
func (j *Jump) IsBreak(name string) bool { return j.Is(Breaks) && j.Name == name }

// GoesOn reports whether a loop with these labels continues after a statement
// that has ended so.
func (j *Jump) GoesOn(labels []string) bool {
	return j == nil || j.Kind == Continues && (j.Name == "" || slices.Contains(labels, j.Name))
}

// stop returns the stop of a program that ends in this way.
func stop(kind int) *Jump { return &Jump{Kind: Stops, end: End{Kind: kind}} }

// raise returns what comes of a signal: nothing, a throw, or a stop.
func (r *Realm) raise(signal int) *Jump {
	switch signal {
	case conv.Type:
		return r.throw("TypeError")
	case conv.Range:
		return r.throw("RangeError")
	case conv.Reference:
		return r.throw("ReferenceError")
	case conv.Syntax:
		return r.throw("SyntaxError")
	case conv.Exit:
		return stop(Exited)
	}
	return nil
}

// fail is raise for those that would return a value.
func (r *Realm) fail(signal int) (heap.Value, *Jump) {
	return heap.Value{}, r.raise(signal)
}

// throw throws a new error with this name, and without a message.
func (r *Realm) throw(name string) *Jump {
	v, j := r.newError(name, nil)
	if j != nil {
		return j
	}
	return &Jump{Kind: Throws, V: v}
}

// newError makes an error.
func (r *Realm) newError(name string, message []uint16) (heap.Value, *Jump) {
	return r.make(heap.Cell{Kind: heap.Error, Name: name, This: conv.Str(message)})
}

// ascii returns the text that consists of the bytes of s.
func ascii(s string) heap.Value { return conv.Str(text.Ascii(s)) }
