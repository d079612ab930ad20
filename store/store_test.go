package store_test

import (
	"strings"
	"testing"

	"tabula/api"
	"tabula/book"
	logs "tabula/log"
	"tabula/pack"
	"tabula/store"
)

// P27.2: records, byte by byte.
func TestRecords(t *testing.T) {
	s, d := started(t, 4096, one())
	if err := s.Put(set(3, "x")); err != api.OK {
		t.Errorf("Put: error %d", err)
	}
	all := whole(t, d)
	first, rest, _ := strings.Cut(all, "\n")
	if !strings.HasPrefix(first[8:], ` BTBL1`+"\x01"+`\0\0\0`+"\x05"+`\0`+"\x01"+`\0`+"\x01S") {
		t.Errorf("the first record is %q", first)
	}
	second, rest, _ := strings.Cut(rest, "\n")
	const want = " E1 0 0 0 0 1 x0 0 0 0 0 0 0 0 0 0 0 0 0 0 0 3 "
	if second[8:] != want || strings.Trim(second[:8], "0123456789abcdef") != "" || second+"\n" != record(want[1:]) || strings.Trim(rest, "\x00") != "" {
		t.Errorf("the second record is %q; want 8 digits and %q", second, want)
	}
	for i, e := range entries() {
		s, d := started(t, 4096, sheets())
		if err := s.Put(e); err != api.OK {
			t.Errorf("Put %d: error %d", i, err)
		}
		if want := records(t, sheets(), e); whole(t, d) != want+strings.Repeat("\x00", 4096-len(want)) {
			t.Errorf("entry %d: %q; want %q", i, strings.TrimRight(whole(t, d), "\x00"), want)
		}
		has(t, open(t, d), sheets(), []api.Entry{e}, 1)
	}
}

// P27.1, P27.3: what is opened, and what it has.
func TestOpen(t *testing.T) {
	has(t, open(t, made(t, 64)), api.Book{}, nil, 0)
	d := with(t, 8192, records(t, sheets(), entries()...)+"x\ny")
	s := open(t, d)
	has(t, s, sheets(), entries(), len(entries()))
	want := records(t, sheets(), entries()...)
	if whole(t, d) != want+strings.Repeat("\x00", 8192-len(want)) || d.Pending() != 0 {
		t.Errorf("the disk has %q, %d pending", strings.TrimRight(whole(t, d), "\x00"), d.Pending())
	}
	if err := d.Crash(nil); err != api.OK {
		t.Fatalf("Crash: error %d", err)
	}
	s = open(t, d)
	has(t, s, sheets(), entries(), len(entries()))
	if err := s.Put(set(5, "more")); err != api.OK {
		t.Errorf("Put: error %d", err)
	}
	has(t, s, sheets(), append(entries(), set(5, "more")), len(entries()))
	if whole(t, d)[:len(want)+10] != (want + record(payload(set(5, "more"))))[:len(want)+10] {
		t.Error("what is put stands elsewhere than behind all others")
	}
	s = open(t, with(t, 8192, strings.Repeat("junk\n", 300)))
	has(t, s, api.Book{}, nil, 0)
	if err := s.Start(one()); err != api.OK {
		t.Errorf("Start where there was something else: error %d", err)
	}
	has(t, s, one(), nil, 0)
}

// P27.1: what is no record ends them, and all that is behind it is gone.
func TestNoRecords(t *testing.T) {
	first := records(t, sheets())
	good := record(payload(set(3, "x")))
	file, _ := pack.Encode(one())
	of := func(payload string) string { return record(payload) }
	long := "1 0 0 0 0 1 x0 0 0 0 0 0 0 0 0 0 0 0 0 0 0 3 "
	for _, c := range []string{
		good[:len(good)-1], good[:len(good)-1] + " \n", " " + good, "\x00" + good, good[:20] + "\x00" + good[21:], good[:20] + "\x00" + good[20:], strings.ToUpper(good), "00000000" + good[8:], good[1:], "0" + good, good[:8] + "\t" + good[9:], "\n", "x\n", "        \n", "00000001 \n",
		of(""), of("E"), of("F" + long), of("e" + long), of("\u00e9" + long), of("\xff" + long), of("B" + file), of("E" + long + " "), of("E" + long + "0 "), of("E" + strings.TrimSuffix(long, " ")), of("E" + strings.TrimSuffix(long, "3 ")), of("E0" + long), of("E+" + long), of("E " + long), of("E-" + long), of("E1 -0" + long[3:]), of("E16" + long[1:]), of("E1 9" + long[3:]), of("E99999999999999999999" + long[1:]), of("Ex" + long[1:]),
		of("E1 0 0 0 0 -1 x0 0 0 0 0 0 0 0 0 0 0 0 0 0 0 3 "), of("E1 0 0 0 0 99 x0 0 0 0 0 0 0 0 0 0 0 0 0 0 0 3 "), of("E1 0 0 0 0 01 x0 0 0 0 0 0 0 0 0 0 0 0 0 0 0 3 "), of("E1 0 0 0 0 1 x0 0 0 0 0 0 -1 0 0 0 0 0 0 0 0 3 "), of("E1 0 0 0 0 1 x0 0 0 0 0 0 9999999999999 0 0 0 0 0 0 0 0 3 "), of("E1 0 0 0 0 1 x0 0 0 0 0 0 0 0 0 0 0 0 0 0 2 3 "), of("E1 0 0 0 0 1 x0 0 0 0 0 0 0 0 0 0 0 0 0 0 0 20 "), of("E1 0 0 0 0 1 x0 0 0 0 0 0 0 0 0 0 0 0 0 0 0 -1 "), of("E1 0 0 0 0 1 \x010 0 0 0 0 0 0 0 0 0 0 0 0 0 0 3 "),
		strings.Replace(of("E"+strings.Replace(long, "x", `\`, 1)), `\\`, `\`, 1), strings.Replace(of("E"+strings.Replace(long, "x", `\`, 1)), `\\`, `\x`, 1),
	} {
		for _, behind := range []string{"", good, strings.Repeat("z", 100)} {
			d := with(t, 8192, first+good+c+behind)
			has(t, open(t, d), sheets(), []api.Entry{set(3, "x")}, 1)
			if want := first + good; whole(t, d) != want+strings.Repeat("\x00", 8192-len(want)) {
				t.Errorf("behind %q the disk has %q", c, strings.TrimRight(whole(t, d), "\x00"))
			}
		}
		if c == of("B"+file) {
			continue
		}
		d := with(t, 8192, c+first)
		has(t, open(t, d), api.Book{}, nil, 0)
		if strings.Trim(whole(t, d), "\x00") != "" {
			t.Errorf("behind %q the disk has %q", c, strings.TrimRight(whole(t, d), "\x00"))
		}
	}
}

// P27.1: what may not stand first: an entry, a workbook that is not right, and a file that is not its own.
func TestNoFirst(t *testing.T) {
	file, _ := pack.Encode(one())
	for _, c := range []string{record(payload(set(3, "x"))), record("B"), record("B" + file + "\x00"), record("B" + file[:len(file)-1]), record("B" + strings.Replace(file, "\x01S", "\x01\n", 1)), record(file), record("b" + file), "\n" + record("B"+file), "\x00" + record("B"+file)} {
		d := with(t, 4096, c+record("B"+file))
		has(t, open(t, d), api.Book{}, nil, 0)
		if strings.Trim(whole(t, d), "\x00") != "" {
			t.Errorf("of %q the disk has %q", c, strings.TrimRight(whole(t, d), "\x00"))
		}
	}
	has(t, open(t, with(t, 4096, record("B"+file)+record("B"+file))), one(), nil, 0)
}

// P27.2: what can't be started or put, in the order of what is told.
func TestWrong(t *testing.T) {
	bad := one()
	bad.Sheets[0].Name = ""
	fresh := open(t, made(t, 64))
	for b, want := range map[*api.Book]api.Errno{&bad: api.ErrSheet, {}: api.ErrLimit} {
		if err := fresh.Start(*b); err != want {
			t.Errorf("Start of a wrong workbook: error %d; want %d", err, want)
		}
	}
	if err := fresh.Start(one()); err != api.ErrFull {
		t.Errorf("Start on a disk that is too small: error %d", err)
	}
	for _, e := range append(noActions(), entries()...) {
		if err := fresh.Put(e); err != api.ErrStore {
			t.Errorf("Put of a store that is not started: error %d", err)
		}
	}
	has(t, fresh, api.Book{}, nil, 0)
	s, d := started(t, 4096, sheets())
	if err := s.Put(set(1, "x")); err != api.OK {
		t.Errorf("Put: error %d", err)
	}
	before, pending := whole(t, d), d.Pending()
	for _, b := range []api.Book{bad, one(), {}} {
		if err := s.Start(b); err != api.ErrStore {
			t.Errorf("Start of one that is started: error %d", err)
		}
	}
	for i, e := range noActions() {
		if err := s.Put(e); err != api.ErrArg {
			t.Errorf("Put of no action %d: error %d", i, err)
		}
	}
	if whole(t, d) != before || d.Pending() != pending {
		t.Error("what was refused has changed the disk")
	}
	has(t, s, sheets(), []api.Entry{set(1, "x")}, 0)
}

// P27.2: what fits to the last byte, and one byte more.
func TestFull(t *testing.T) {
	b := one()
	for i := 1; len(records(t, b))%64 != 0; i++ {
		b.Sheets[0].Cells = []api.Cell{{Input: strings.Repeat("x", i)}}
	}
	n := len(records(t, b))
	s, d := started(t, n, b)
	if whole(t, d) != records(t, b) {
		t.Errorf("the disk has %q", whole(t, d))
	}
	if err := s.Put(api.Entry{Op: api.Op{Kind: api.OpUndo}}); err != api.ErrFull {
		t.Errorf("Put behind the last byte: error %d", err)
	}
	if err := open(t, made(t, n-64)).Start(b); err != api.ErrFull {
		t.Errorf("Start of what does not fit: error %d", err)
	}
	size := 64 * (n/64 + 2)
	for room := range 120 {
		text := strings.Repeat("y", room+1)
		s, d := started(t, size, b)
		want := api.OK
		if n+len(record(payload(set(1, text)))) > size {
			want = api.ErrFull
		}
		err := s.Put(set(1, text))
		if err != want {
			t.Fatalf("Put of %d bytes: error %d; want %d", room+1, err, want)
		}
		if full := n+len(record(payload(set(1, text)))) == size; full && whole(t, d)[size-1] != '\n' {
			t.Error("what fits does not end with the disk")
		}
		if err == api.ErrFull {
			has(t, s, b, nil, 0)
			return
		}
		has(t, open(t, d), b, []api.Entry{set(1, text)}, 1)
	}
	t.Error("everything fits")
}

// P27.2, P27.3: what is synced.
func TestSync(t *testing.T) {
	s, d := started(t, 4096, one())
	if d.Pending() == 0 {
		t.Error("Start has synced")
	}
	has(t, s, one(), nil, 0)
	for i := range 3 {
		if err := s.Put(set(i, "x")); err != api.OK {
			t.Errorf("Put: error %d", err)
		}
	}
	if d.Pending() == 0 || s.Synced() != 0 {
		t.Error("Put has synced")
	}
	if err := s.Sync(); err != api.OK || d.Pending() != 0 || s.Synced() != 3 {
		t.Errorf("Sync: error %d, %d pending, %d synced", err, d.Pending(), s.Synced())
	}
	if err := s.Put(set(9, "y")); err != api.OK || s.Synced() != 3 || len(s.Entries()) != 4 {
		t.Errorf("Put behind Sync: error %d, %d synced", err, s.Synced())
	}
	if err := d.Crash(nil); err != api.OK {
		t.Fatalf("Crash: error %d", err)
	}
	has(t, open(t, d), one(), []api.Entry{set(0, "x"), set(1, "x"), set(2, "x")}, 3)
}

// P27.1 to P27.3: no store, and no disk.
func TestNil(t *testing.T) {
	if s, err := store.Open(nil); s != nil || err != api.ErrNil {
		t.Errorf("Open of none: error %d", err)
	}
	var s *store.Store
	if s.Start(api.Book{}) != api.ErrNil || s.Put(api.Entry{}) != api.ErrNil || s.Sync() != api.ErrNil || !book.Same(s.Book(), api.Book{}) || len(s.Entries()) != 0 || s.Synced() != 0 {
		t.Error("of none something else is told")
	}
}

// What is told is new memory, and what was handed in is not kept.
func TestMemory(t *testing.T) {
	b, list := sheets(), entries()
	s, d := started(t, 8192, b)
	for _, e := range list {
		if err := s.Put(e); err != api.OK {
			t.Errorf("Put: error %d", err)
		}
	}
	spoil := func(b api.Book, l []api.Entry) {
		b.Sheets[0].Cells[0].Input, b.Tables[0].Cols[0], b.Names[0].Name = "changed", "changed", "changed"
		for i := range l {
			if len(l[i].Op.Table.Cols) > 0 {
				l[i].Op.Table.Cols[0] = "changed"
			}
			l[i].Author = 9
		}
	}
	spoil(b, list)
	spoil(s.Book(), s.Entries())
	_ = append(s.Entries(), set(1, "more"))
	has(t, s, sheets(), entries(), 0)
	s = open(t, d)
	spoil(s.Book(), s.Entries())
	has(t, s, sheets(), entries(), len(entries()))
}

// P27.4: whatever crashes keep, the first entries are there, at least as many as were synced; and what is put behind them is so, too.
func TestCrashes(t *testing.T) {
	d := dice(1)
	lost, kept := 0, 0
	for range 150 {
		all := append(entries(), entries()...)
		disk := made(t, 16384)
		s := open(t, disk)
		var there []api.Entry
		isStarted, isSure, sure := false, false, 0
		for range 60 {
			switch d.below(10) {
			case 0:
				if err := s.Sync(); err != api.OK {
					t.Fatalf("Sync: error %d", err)
				}
				isSure, sure = isStarted, len(there)
			case 1:
				if err := disk.Crash(d.keep(disk.Pending())); err != api.OK {
					t.Fatalf("Crash: error %d", err)
				}
				s = open(t, disk)
				left := s.Entries()
				isThere := book.Same(s.Book(), sheets())
				if len(left) < sure || len(left) > len(there) || !logs.Same(left, there[:len(left)]) || s.Synced() != len(left) || isSure && !isThere || !isThere && !book.Same(s.Book(), api.Book{}) {
					t.Fatalf("of %+v, %d of them synced, there is left %+v", there, sure, left)
				}
				lost, kept = lost+len(there)-len(left), kept+len(left)-sure
				there, isStarted, isSure, sure = left, isThere, isThere, len(left)
			case 2:
				want := api.OK
				if isStarted {
					want = api.ErrStore
				}
				if err := s.Start(sheets()); err != want {
					t.Fatalf("Start: error %d; want %d", err, want)
				}
				isStarted = true
			default:
				e := all[d.below(len(all))]
				err := s.Put(e)
				if !isStarted && err != api.ErrStore || isStarted && err != api.OK && err != api.ErrFull {
					t.Fatalf("Put: error %d", err)
				}
				if err == api.OK {
					there = append(there, e)
				}
			}
			if !logs.Same(s.Entries(), there) || s.Synced() != sure {
				t.Fatalf("there is %+v, %d synced; want %+v, %d", s.Entries(), s.Synced(), there, sure)
			}
		}
	}
	if lost < 200 || kept < 100 {
		t.Errorf("only %d entries are lost, and %d kept that were not synced", lost, kept)
	}
}
