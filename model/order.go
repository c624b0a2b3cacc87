package model

import (
	"rendezvous/event"
	"rendezvous/rel"
)

// unplaced is the place of an event that the order has not named yet.
const unplaced = -1

// Natural returns the events as they stand in the log.
func Natural(l event.Log) []int {
	if !event.May(l) {
		return nil
	}
	order := make([]int, len(l.Events))
	for n := range order {
		order[n] = n
	}
	return order
}

// Ordered checks whether the order has each event once, and those that happen before others ahead of them.
func Ordered(l event.Log, order []int) int {
	if !event.May(l) {
		return refused
	}
	place, ok := places(order, len(l.Events))
	if !ok || !keeps(place, rel.Before(l)) {
		return refused
	}
	return none
}

// places returns where each of count events stands in the order; false if it does not contain each of them exactly once.
func places(order []int, count int) ([]int, bool) {
	if len(order) != count {
		return nil, false
	}
	place := make([]int, count)
	for n := range place {
		place[n] = unplaced
	}
	for at, n := range order {
		if n < 0 || n >= count || place[n] != unplaced {
			return nil, false
		}
		place[n] = at
	}
	return place, true
}

func keeps(place []int, before *rel.Rel) bool {
	for a, b := range before.Pairs() {
		if place[a] > place[b] {
			return false
		}
	}
	return true
}
