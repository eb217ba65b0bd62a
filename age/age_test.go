package age

import (
	"math/rand"
	"slices"
	"testing"

	"dockmaster/api"
)

// sorted is transactions by number, and of one number by node.
func sorted() []api.Tid {
	var list []api.Tid
	for _, num := range []uint64{0, 1, 2, 9, 10, api.MaxTid - 1, api.MaxTid, 1<<64 - 1} {
		for _, node := range []int{-1, 0, 1, 2, 63, 64} {
			list = append(list, api.Tid{Num: num, Node: node})
		}
	}
	return list
}

func TestCompare(t *testing.T) {
	list := sorted()
	for i, a := range list {
		for j, b := range list {
			want := 0
			if i < j {
				want = -1
			} else if i > j {
				want = 1
			}
			if got := compare(a, b); got != want {
				t.Error(a, b, got)
			}
		}
	}
}

// Of whatever part of them, put in in whatever order.
func TestKeys(t *testing.T) {
	if got := Keys(map[api.Tid]int(nil)); len(got) != 0 {
		t.Error(got)
	}
	r := rand.New(rand.NewSource(3))
	for range 200 {
		var want []api.Tid
		for _, x := range sorted() {
			if r.Intn(3) == 0 {
				want = append(want, x)
			}
		}
		m := map[api.Tid]string{}
		for _, i := range r.Perm(len(want)) {
			m[want[i]] = "x"
		}
		if got := Keys(m); !slices.Equal(got, want) {
			t.Fatal(got, want)
		}
	}
}
