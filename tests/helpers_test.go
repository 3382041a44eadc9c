package tests

import (
	"bytes"
	"math"
	"slices"
	"testing"
)

// oddInts are the numbers at which a length, a limit or the width of an int ends.
func oddInts() []int {
	list := []int{math.MinInt, math.MinInt + 1, math.MaxInt - 1, math.MaxInt}
	for shift := range 63 {
		p := 1 << shift
		list = append(list, p-1, p, p+1, -p)
	}
	return list
}

// numbers gives the same row of numbers in every run: a failure can be met again.
type numbers uint64

func (n *numbers) next() uint64 {
	*n += 0x9e3779b97f4a7c15
	z := uint64(*n)
	z = (z ^ z>>30) * 0xbf58476d1ce4e5b9
	z = (z ^ z>>27) * 0x94d049bb133111eb
	return z ^ z>>31
}

func (n *numbers) below(limit int) int { return int(n.next() % uint64(limit)) }

// variable is a number of any width from 0 to 62 bits, so that each of the four lengths is met.
func (n *numbers) variable() int { return int(n.next() >> (2 + n.below(63))) }

// fenced is a list with a fence behind its end, to see whether a call writes there.
type fenced[T comparable] struct {
	list, whole, before []T
}

func fence[T comparable](list []T, mark T) fenced[T] {
	whole := append(slices.Clone(list), mark, mark, mark, mark, mark, mark, mark, mark)
	return fenced[T]{whole[:len(list)], whole, slices.Clone(whole)}
}

func (f fenced[T]) check(t *testing.T, call string) {
	t.Helper()
	if !slices.Equal(f.whole, f.before) {
		t.Errorf("%s wrote into its argument or behind its end", call)
	}
}

// mustEnd fails the test, not the whole run, when a call panics.
func mustEnd(t *testing.T, call string, f func()) {
	t.Helper()
	defer func() {
		if r := recover(); r != nil {
			t.Errorf("%s panicked: %v", call, r)
		}
	}()
	f()
}

func join(parts ...[]byte) []byte { return bytes.Join(parts, nil) }
