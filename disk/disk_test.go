package disk_test

import (
	"math"
	"slices"
	"strings"
	"testing"

	"tabula/api"
	"tabula/disk"
)

func made(t *testing.T, size int) *disk.Disk {
	t.Helper()
	d, err := disk.New(size)
	if d == nil || err != api.OK {
		t.Fatalf("New(%d): error %d", size, err)
	}
	return d
}

func whole(t *testing.T, d *disk.Disk) string {
	t.Helper()
	s, err := d.Read(0, d.Size())
	if err != api.OK {
		t.Fatalf("Read of all: error %d", err)
	}
	return s
}

func write(t *testing.T, d *disk.Disk, at int, s string) {
	t.Helper()
	if err := d.Write(at, s); err != api.OK {
		t.Fatalf("Write(%d, %q): error %d", at, s, err)
	}
}

// P26.1: sizes.
func TestNew(t *testing.T) {
	for _, size := range []int{64, 128, 4096, 65536} {
		d := made(t, size)
		if whole(t, d) != strings.Repeat("\x00", size) || d.Size() != size || d.Pending() != 0 {
			t.Errorf("New(%d): size %d, %d pending", size, d.Size(), d.Pending())
		}
		if err := d.Crash(nil); err != api.OK || whole(t, d) != strings.Repeat("\x00", size) {
			t.Errorf("New(%d) behind a crash: error %d", size, err)
		}
	}
	for _, size := range []int{0, -64, 63, 65, 1, 65535, 65600, 65537, math.MinInt, math.MaxInt} {
		if d, err := disk.New(size); d != nil || err != api.ErrArg {
			t.Errorf("New(%d): %v, error %d", size, d, err)
		}
	}
}

// P26.2: what is read and written, and which places there are.
func TestReadWrite(t *testing.T) {
	d := made(t, 128)
	write(t, d, 63, "ab")
	write(t, d, 64, "c")
	write(t, d, 128, "")
	write(t, d, 0, "")
	for _, c := range []struct {
		at, n int
		want  string
	}{{62, 4, "\x00ac\x00"}, {63, 1, "a"}, {64, 1, "c"}, {0, 0, ""}, {128, 0, ""}, {127, 1, "\x00"}} {
		if s, err := d.Read(c.at, c.n); s != c.want || err != api.OK {
			t.Errorf("Read(%d, %d): %q, error %d; want %q", c.at, c.n, s, err, c.want)
		}
	}
	before := whole(t, d)
	for _, c := range [][2]int{{-1, 0}, {-1, 1}, {0, -1}, {0, 129}, {128, 1}, {129, 0}, {127, 2}, {math.MaxInt, math.MaxInt}, {math.MaxInt, 0}, {1, math.MaxInt}, {math.MinInt, math.MinInt}} {
		if s, err := d.Read(c[0], c[1]); s != "" || err != api.ErrDisk {
			t.Errorf("Read(%d, %d): %q, error %d", c[0], c[1], s, err)
		}
	}
	for _, c := range []struct {
		at int
		s  string
	}{{-1, ""}, {-1, "x"}, {128, "x"}, {129, ""}, {127, "xy"}, {0, strings.Repeat("x", 129)}, {math.MaxInt, "x"}, {math.MinInt, "x"}} {
		if err := d.Write(c.at, c.s); err != api.ErrDisk {
			t.Errorf("Write(%d, %q): error %d", c.at, c.s, err)
		}
	}
	if whole(t, d) != before || d.Pending() != 3 {
		t.Errorf("what was refused has changed the disk: %d pending", d.Pending())
	}
}

// P26.2: pieces end where sectors do.
func TestPending(t *testing.T) {
	for _, c := range []struct{ at, n, want int }{{0, 1, 1}, {0, 64, 1}, {0, 65, 2}, {63, 1, 1}, {63, 2, 2}, {1, 64, 2}, {64, 128, 2}, {1, 255, 4}, {0, 256, 4}, {255, 1, 1}, {256, 0, 0}, {64, 0, 0}} {
		d := made(t, 256)
		write(t, d, c.at, strings.Repeat("x", c.n))
		if d.Pending() != c.want {
			t.Errorf("Pending behind %d bytes at %d: %d; want %d", c.n, c.at, d.Pending(), c.want)
		}
		if err := d.Sync(); err != api.OK || d.Pending() != 0 {
			t.Errorf("Sync: error %d, %d pending", err, d.Pending())
		}
	}
}

// P26.3: what crashes keep.
func TestCrash(t *testing.T) {
	for _, c := range []struct {
		keep []int
		want string
	}{
		{nil, ".....|....."}, {[]int{0}, "....a|....."}, {[]int{0, 1, 2}, "....a|c...."}, {[]int{2, 1}, ".....|b...."}, {[]int{1, 2}, ".....|c...."}, {[]int{1}, ".....|b...."},
		{[]int{3}, ".....|.defg"}, {[]int{-4}, ".....|.de.."}, {[]int{-1}, ".....|....."}, {[]int{-2, 0}, "....a|....."}, {[]int{4}, "hijkl|....."}, {[]int{-5}, "hi...|....."}, {[]int{-5, 0}, "hi..a|....."}, {[]int{4, 0}, "hijka|....."}, {[]int{0, 4}, "hijkl|....."}, {[]int{0, -5, 3, 2}, "hi..a|cdefg"}, {[]int{-5, -4, -3, -2, -1}, "hi...|.de.."},
	} {
		d := made(t, 128)
		write(t, d, 0, strings.Repeat(".", 128))
		if err := d.Sync(); err != api.OK {
			t.Fatalf("Sync: error %d", err)
		}
		write(t, d, 63, "ab")
		write(t, d, 64, "c")
		write(t, d, 65, "defg")
		write(t, d, 59, "hijkl")
		if err := d.Crash(c.keep); err != api.OK || d.Pending() != 0 {
			t.Errorf("Crash(%v): error %d, %d pending", c.keep, err, d.Pending())
		}
		want := strings.Repeat(".", 59) + strings.Replace(c.want, "|", "", 1) + strings.Repeat(".", 59)
		if s := whole(t, d); s != want {
			t.Errorf("Crash(%v): %q; want %q", c.keep, s[59:69], c.want)
		}
		if err := d.Crash(nil); err != api.OK || whole(t, d) != want {
			t.Errorf("Crash(%v), and again: %q", c.keep, whole(t, d)[59:69])
		}
	}
}

// P26.3: numbers of pieces that there are not, or that were told ahead.
func TestCrashWrong(t *testing.T) {
	d := made(t, 128)
	write(t, d, 63, "ab")
	before := whole(t, d)
	for _, keep := range [][]int{{2}, {-3}, {0, 0}, {0, -1}, {-1, -1}, {-1, 0}, {0, 1, 0}, {1, -2}, {0, 2}, {math.MaxInt}, {math.MinInt}, {0, 1, -3}} {
		if err := d.Crash(keep); err != api.ErrKeep || d.Pending() != 2 || whole(t, d) != before {
			t.Errorf("Crash(%v): error %d, %d pending", keep, err, d.Pending())
		}
	}
	if err := d.Crash([]int{1}); err != api.OK || whole(t, d)[63:65] != "\x00b" {
		t.Errorf("Crash behind those that were refused: error %d, %q", err, whole(t, d)[63:65])
	}
	for _, keep := range [][]int{{0}, {-1}} {
		if err := d.Crash(keep); err != api.ErrKeep {
			t.Errorf("Crash(%v) with nothing pending: error %d", keep, err)
		}
	}
}

// P26.4: no disk.
func TestNil(t *testing.T) {
	var d *disk.Disk
	s, err := d.Read(-1, -1)
	if s != "" || err != api.ErrNil || d.Write(-1, "x") != api.ErrNil || d.Sync() != api.ErrNil || d.Crash([]int{5}) != api.ErrNil || d.Pending() != 0 || d.Size() != 0 {
		t.Errorf("of none: %q, error %d", s, err)
	}
}

// dice are numbers that look like chance, and are the same in each run.
type dice uint64

func (d *dice) below(n int) int {
	*d = *d*6364136223846793005 + 1442695040888963407
	return int(uint64(*d)>>33) % n
}

// slow is a disk by the chapter's words: what is there is laid anew each time.
type slow struct {
	kept    []byte
	pending []string
	at      []int
}

func (s *slow) write(at int, text string) {
	for i := range len(text) {
		place := at + i
		if last := len(s.at) - 1; i > 0 && place%64 != 0 {
			s.pending[last] += text[i : i+1]
			continue
		}
		s.pending, s.at = append(s.pending, text[i:i+1]), append(s.at, place)
	}
}

func (s *slow) there() []byte {
	all := slices.Clone(s.kept)
	for i, p := range s.pending {
		copy(all[s.at[i]:], p)
	}
	return all
}

func (s *slow) crash(keep []int) {
	for _, k := range keep {
		if k >= 0 {
			copy(s.kept[s.at[k]:], s.pending[k])
			continue
		}
		p := s.pending[-k-1]
		copy(s.kept[s.at[-k-1]:], p[:len(p)/2])
	}
	s.pending, s.at = nil, nil
}

// keep are some of so many pieces, some of them by half, in some order; or all, or none.
func (d *dice) keep(n int) []int {
	var list []int
	for k := range n {
		switch d.below(4) {
		case 0:
			list = append(list, k)
		case 1:
			list = append(list, -1-k)
		}
	}
	for i := range list {
		k := d.below(i + 1)
		list[i], list[k] = list[k], list[i]
	}
	return list
}

// P26.2, P26.3 held against the chapter's words.
func TestMany(t *testing.T) {
	dice := dice(1)
	for range 200 {
		size := 64 * (1 + dice.below(5))
		d, s := made(t, size), &slow{kept: make([]byte, size)}
		for range 60 {
			switch dice.below(8) {
			case 0:
				if err := d.Sync(); err != api.OK {
					t.Fatalf("Sync: error %d", err)
				}
				s.kept, s.pending, s.at = s.there(), nil, nil
			case 1:
				keep := dice.keep(d.Pending())
				told := slices.Clone(keep)
				if err := d.Crash(keep); err != api.OK || !slices.Equal(keep, told) {
					t.Fatalf("Crash(%v): error %d", told, err)
				}
				s.crash(told)
			default:
				at := dice.below(size)
				text := strings.Repeat(string(rune('a'+dice.below(26))), dice.below(min(size-at, 150)+1))
				write(t, d, at, text)
				s.write(at, text)
			}
			if whole(t, d) != string(s.there()) || d.Pending() != len(s.pending) || d.Size() != size {
				t.Fatalf("%q, %d pending; want %q, %d", whole(t, d), d.Pending(), s.there(), len(s.pending))
			}
		}
	}
}

// P26.5: what follows.
func TestWhatFollows(t *testing.T) {
	dice := dice(9)
	fill := func() *disk.Disk {
		d := made(t, 256)
		write(t, d, 0, strings.Repeat("synced ", 30))
		if err := d.Sync(); err != api.OK {
			t.Fatalf("Sync: error %d", err)
		}
		write(t, d, 10, strings.Repeat("x", 100))
		write(t, d, 190, "y")
		return d
	}
	for range 50 {
		d := fill()
		before := whole(t, d)
		if err := d.Crash(dice.keep(d.Pending())); err != api.OK || whole(t, d)[:10] != before[:10] || whole(t, d)[110:190] != before[110:190] || whole(t, d)[191:] != before[191:] {
			t.Fatalf("what was synced, and not written since, is another one: %q", whole(t, d))
		}
	}
	d := fill()
	before := whole(t, d)
	if err := d.Crash([]int{0, 1, 2}); err != api.OK || whole(t, d) != before {
		t.Errorf("a crash that keeps all loses something: %q", whole(t, d))
	}
	d = fill()
	if err := d.Crash(nil); err != api.OK || whole(t, d)[:210] != strings.Repeat("synced ", 30) {
		t.Errorf("a crash that keeps none leaves something else: %q", whole(t, d))
	}
	a, b := fill(), fill()
	if a.Crash([]int{0, 1, 2}) != api.OK || b.Crash([]int{2, 0, 1}) != api.OK || whole(t, a) != whole(t, b) {
		t.Errorf("pieces of other sectors, kept in another order, leave something else")
	}
}

// Disks have nothing in common.
func TestTwo(t *testing.T) {
	a, b := made(t, 64), made(t, 64)
	write(t, a, 0, "a")
	write(t, b, 1, "b")
	if whole(t, a)[:2] != "a\x00" || whole(t, b)[:2] != "\x00b" {
		t.Errorf("%q, %q", whole(t, a)[:2], whole(t, b)[:2])
	}
}
