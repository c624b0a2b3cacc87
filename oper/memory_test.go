package oper_test

import (
	"slices"
	"testing"

	"rendezvous/conv"
	"rendezvous/heap"
	"rendezvous/oper"
)

// answer is what a call answers.
type answer struct {
	v      heap.Value
	signal int
}

// alone are the answers of all calls with one value.
func alone(v heap.Value) []answer {
	list := []answer{}
	for _, op := range append(unaryOps(), "typeof") {
		got, signal := oper.Unary(op, v)
		list = append(list, answer{got, signal})
	}
	for _, by := range []int{1, -1, 0} {
		got, signal := oper.Step(v, by)
		list = append(list, answer{got, signal})
	}
	return list
}

// together are the answers of all calls with two values.
func together(a, b heap.Value) []answer {
	list := []answer{}
	for _, op := range append(binaryOps(), "in") {
		got, signal := oper.Binary(op, a, b)
		list = append(list, answer{got, signal})
	}
	return list
}

// all are the answers of all calls with one value or two.
func all(a, b heap.Value) []answer { return slices.Concat(alone(a), together(a, b), alone(b)) }

// same reports whether two lists of answers are the same.
func same(a, b []answer) bool {
	return slices.EqualFunc(a, b, func(x, y answer) bool { return x.signal == y.signal && heap.Same(x.v, y.v) })
}

// What is not valid is treated like undefined by every call.
func TestInvalidIsUndefined(t *testing.T) {
	others := []heap.Value{undefined, null, no, yes, nan, whole(0), whole(1), infinite, bigInt(0), bigInt(1), str(""), str("1"), str("a"), str("1.5"), object(0), object(5)}
	for _, one := range invalidValues() {
		if !same(alone(one.bad), alone(undefined)) {
			t.Errorf("%s is not treated like undefined", short(one.bad))
		}
		for _, v := range append(others, one.like) {
			if !same(together(one.bad, v), together(undefined, v)) || !same(together(v, one.bad), together(v, undefined)) {
				t.Errorf("%s beside %s is not treated like undefined", short(one.bad), short(v))
			}
		}
		if !same(together(one.bad, one.bad), together(undefined, undefined)) {
			t.Errorf("%s is not treated like undefined", short(one.bad))
		}
	}
}

// Beside a signal there is nothing, and signals are those of the chapter.
func TestZeroBesideSignal(t *testing.T) {
	for _, a := range validValues() {
		for _, b := range validValues() {
			for i, one := range all(a, b) {
				if one.signal != conv.Ok && !heap.Same(one.v, heap.Value{}) || one.signal < conv.Ok || one.signal > conv.Exit {
					t.Errorf("%s, %s: answer %d is %s, %d", short(a), short(b), i, short(one.v), one.signal)
				}
			}
		}
	}
}

// fill writes into a list and all its spare capacity.
func fill[T any](list []T, x T) {
	_ = append(list, x, x, x)
	list = list[:cap(list)]
	for i := range list {
		list[i] = x
	}
}

// wipe writes into the lists of a value.
func wipe(v heap.Value) {
	fill(v.S, 0xEEEE)
	fill(v.B.Mag, 0xEEEEEEEE)
}

// roomy returns a copy of a list with spare capacity, which is filled with x.
func roomy[T any](list []T, x T) []T {
	out := append(slices.Clone(list), x, x, x, x, x, x, x, x, x)
	return out[:len(list):len(out)]
}

func roomyValue(v heap.Value) heap.Value {
	v.S, v.B.Mag = roomy(v.S, 0xABCD), roomy(v.B.Mag, 0xABCDABCD)
	return v
}

// wholeOf is a copy of all the memory of a value, with the spare capacity.
func wholeOf(v heap.Value) heap.Value {
	v.S, v.B.Mag = slices.Clone(v.S[:cap(v.S)]), slices.Clone(v.B.Mag[:cap(v.B.Mag)])
	return v
}

// memoryValues are those whose answers may have lists, and some others.
func memoryValues() []heap.Value {
	return []heap.Value{undefined, yes, whole(0), whole(5), negZero, bigInt(0), bigInt(1), bigInt(-5), bigInt(1 << 40), bigText(greatest), bigLimbs(true, 1, 2, 3), str(""), str("1"), str("abc"), units(0xD800, 0), object(3)}
}

func TestP11_4_Arguments(t *testing.T) {
	for _, x := range memoryValues() {
		for _, y := range memoryValues() {
			a, b := roomyValue(x), roomyValue(y)
			wasA, wasB := wholeOf(a), wholeOf(b)
			first, again := all(a, b), all(a, b)
			want := shown(first)
			for _, one := range first {
				wipe(one.v)
			}
			if !heap.Same(wholeOf(a), wasA) || !heap.Same(wholeOf(b), wasB) {
				t.Errorf("%s or %s is changed", short(x), short(y))
			}
			if shown(again) != want {
				t.Errorf("answers of %s and %s share memory", short(x), short(y))
			}
			// What becomes of the arguments does not reach the answers.
			wipe(a)
			wipe(b)
			if shown(again) != want || shown(all(x, y)) != want {
				t.Errorf("answers keep %s or %s", short(x), short(y))
			}
		}
	}
}

// One value on both sides, with one memory.
func TestP11_4_Twice(t *testing.T) {
	for _, x := range memoryValues() {
		a := roomyValue(x)
		was := wholeOf(a)
		answers := all(a, a)
		if !same(answers, all(x, roomyValue(x))) || !heap.Same(wholeOf(a), was) {
			t.Errorf("%s on both sides", short(x))
		}
	}
}
