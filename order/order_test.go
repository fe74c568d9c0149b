package order

import (
	"cmp"
	"slices"
	"testing"
)

func TestIncreasing(t *testing.T) {
	for _, list := range [][]int{nil, {}, {5}, {1, 2}, {-3, 0, 9, 10}} {
		if !Increasing(list, cmp.Compare[int]) {
			t.Errorf("%v counts as not increasing", list)
		}
	}
	for _, list := range [][]int{{5, 5}, {2, 1}, {2, 1, 3}, {1, 3, 2}, {1, 2, 2, 3}, {1, 2, 3, 3}} {
		if Increasing(list, cmp.Compare[int]) {
			t.Errorf("%v counts as increasing", list)
		}
	}
}

func TestIncreasingByAnotherOrder(t *testing.T) {
	down := func(a, b string) int { return cmp.Compare(b, a) }
	list := []string{"c", "b", "a"}
	if !Increasing(list, down) || Increasing(list, cmp.Compare[string]) {
		t.Error("the comparison is not the one that was given")
	}
	if !slices.Equal(list, []string{"c", "b", "a"}) {
		t.Error("the list is modified")
	}
}
