package islands_test

import (
	"math"
	"slices"
	"testing"

	"tabula/api"
	"tabula/islands"
)

// dice are numbers that look like chance, and are the same in each run.
type dice uint64

func (d *dice) below(n int) int {
	*d = *d*6364136223846793005 + 1442695040888963407
	return int(uint64(*d)>>33) % n
}

func (d *dice) graph(nodes int, edges int) [][]int {
	list := make([][]int, nodes)
	for range edges {
		from := d.below(nodes)
		list[from] = append(list[from], d.below(nodes))
	}
	return list
}

// leads are all pairs of which the first node leads to the second one.
func leads(edges [][]int) map[[2]int]bool {
	to := map[[2]int]bool{}
	for i, list := range edges {
		for _, j := range list {
			to[[2]int{i, j}] = true
		}
	}
	for k := range edges {
		for i := range edges {
			for j := range edges {
				if to[[2]int{i, k}] && to[[2]int{k, j}] {
					to[[2]int{i, j}] = true
				}
			}
		}
	}
	return to
}

// told is what P13.2 says: of the islands that may be next, the one with the least node is, one by one.
func told(edges [][]int) [][]int {
	to, there := leads(edges), make([]bool, len(edges))
	var list [][]int
	for count := 0; count < len(edges); {
		for i := range edges {
			if there[i] {
				continue
			}
			var part []int
			for j := range edges {
				if i == j || to[[2]int{i, j}] && to[[2]int{j, i}] {
					part = append(part, j)
				}
			}
			waits := false
			for _, j := range part {
				for _, k := range edges[j] {
					waits = waits || !there[k] && !slices.Contains(part, k)
				}
			}
			if waits {
				continue
			}
			for _, j := range part {
				there[j] = true
			}
			list, count = append(list, part), count+len(part)
			break
		}
	}
	return list
}

func same(a [][]int, b [][]int) bool {
	return slices.EqualFunc(a, b, func(x, y []int) bool { return slices.Equal(x, y) })
}

func check(t *testing.T, edges [][]int, want [][]int) {
	t.Helper()
	if got, err := islands.Parts(edges); !same(got, want) || err != api.OK {
		t.Fatalf("Parts(%v): %v, error %d; want %v", edges, got, err, want)
	}
}

// P13.2: islands and their order, in the chapter's examples and others.
func TestParts(t *testing.T) {
	check(t, nil, nil)
	check(t, [][]int{}, nil)
	check(t, [][]int{nil}, [][]int{{0}})
	check(t, [][]int{{0, 0}}, [][]int{{0}})
	check(t, [][]int{{1}, {2}, {1}}, [][]int{{1, 2}, {0}})
	check(t, [][]int{nil, {0}, nil}, [][]int{{0}, {1}, {2}})
	check(t, [][]int{{2}, nil, nil}, [][]int{{1}, {2}, {0}})
	check(t, [][]int{{1, 1, 1}, nil}, [][]int{{1}, {0}})
	check(t, [][]int{{5}, {0}, {4}, {2}, {3}, {0, 5}, nil}, [][]int{{0, 5}, {1}, {2, 3, 4}, {6}})
	check(t, [][]int{{3}, {3}, {3}, {4}, nil}, [][]int{{4}, {3}, {0}, {1}, {2}})
	check(t, [][]int{{1, 4}, {2}, {0}, {0}, nil}, [][]int{{4}, {0, 1, 2}, {3}})
	check(t, [][]int{{1}, {2, 3}, {0}, {4}, {5}, {3}}, [][]int{{3, 4, 5}, {0, 1, 2}})
}

// P13.2, P13.4: islands held against the chapter's words, in graphs of all sorts.
func TestPartsOfMany(t *testing.T) {
	d := dice(3)
	for range 4000 {
		nodes := 1 + d.below(9)
		edges := d.graph(nodes, d.below(3*nodes))
		kept := make([][]int, nodes)
		for i, list := range edges {
			kept[i] = slices.Clone(list)
		}
		want := told(edges)
		check(t, edges, want)
		if !same(edges, kept) {
			t.Fatal("what was handed in is another one")
		}
		at := make([]int, nodes)
		for i, part := range want {
			for _, node := range part {
				at[node] = i
			}
		}
		for i, list := range edges {
			for _, j := range list {
				if at[j] > at[i] {
					t.Fatalf("of %v %d reads what stands behind it", edges, i)
				}
			}
		}
	}
	for range 30 {
		nodes := 20 + d.below(20)
		edges := d.graph(nodes, nodes+d.below(nodes))
		check(t, edges, told(edges))
	}
}

// P13.1, P13.2: graphs that are not right.
func TestWrong(t *testing.T) {
	for _, edges := range [][][]int{{{1}}, {{-1}}, {nil, {2}}, {{0}, {1, 0, 1, 2}}, {{math.MaxInt}}, {nil, {0}, {math.MinInt}}, make([][]int, 2001), append(make([][]int, 2000), []int{0})} {
		parts, err := islands.Parts(edges)
		if len(parts) > 0 || err != api.ErrGraph {
			t.Errorf("Parts of a wrong graph: %v, error %d", parts, err)
		}
		for _, part := range [][]int{{0}, {0, 1}, nil, {1}} {
			if islands.IsLoop(edges, part) {
				t.Errorf("IsLoop of a wrong graph and %v", part)
			}
		}
	}
}

// P13.3: parts that go round.
func TestIsLoop(t *testing.T) {
	edges := [][]int{{1}, {1}, {0, 3, 2}, nil, {0, 0}}
	for _, c := range []struct {
		part []int
		want bool
	}{
		{nil, false}, {[]int{}, false}, {[]int{0}, false}, {[]int{1}, true}, {[]int{2}, true}, {[]int{3}, false}, {[]int{4}, false}, {[]int{5}, false}, {[]int{-1}, false}, {[]int{math.MinInt}, false}, {[]int{math.MaxInt}, false},
		{[]int{0, 3}, true}, {[]int{3, 3}, true}, {[]int{9, -9}, true}, {[]int{0, 1, 2}, true},
	} {
		if islands.IsLoop(edges, c.part) != c.want {
			t.Errorf("IsLoop of %v is %v", c.part, !c.want)
		}
	}
	if !islands.IsLoop([][]int{{0}}, []int{0}) {
		t.Error("IsLoop of the first node, which reads itself")
	}
	if islands.IsLoop(nil, []int{0}) || islands.IsLoop(nil, nil) || !islands.IsLoop(nil, []int{0, 1}) {
		t.Error("IsLoop of a graph without nodes")
	}
}

// P13.2: graphs as large as they may be: a line to and fro, a ring, and one of all edges.
func TestLarge(t *testing.T) {
	const most = 2000
	ahead, behind, ring := make([][]int, most), make([][]int, most), make([][]int, most)
	var rising, falling [][]int
	var all []int
	for i := range most {
		if i > 0 {
			ahead[i], behind[i-1] = []int{i - 1}, []int{i}
		}
		ring[i] = []int{(i + 7) % most}
		rising, falling = append(rising, []int{i}), append(falling, []int{most - 1 - i})
		all = append(all, i)
	}
	check(t, ahead, rising)
	check(t, behind, falling)
	check(t, ring, [][]int{all})
	check(t, make([][]int, most), rising)
	full := make([][]int, most)
	for i := range full {
		full[i] = all
	}
	check(t, full, [][]int{all})
	for i := range full {
		full[i] = all[:i]
	}
	check(t, full, rising)
}

// R3: islands share no memory.
func TestNewMemory(t *testing.T) {
	edges := [][]int{{1}, {0}, {0}}
	parts, _ := islands.Parts(edges)
	_ = append(parts[0], 9)
	_ = append(parts[1], 9)
	parts[0][0] = 7
	if !same(parts, [][]int{{7, 1}, {2}}) || !same(edges, [][]int{{1}, {0}, {0}}) {
		t.Errorf("parts: %v, edges: %v", parts, edges)
	}
}
