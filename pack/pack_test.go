package pack_test

import (
	"strconv"
	"strings"
	"testing"

	"tabula/api"
	"tabula/book"
	"tabula/pack"
)

// P25.1: sums.
func TestSum(t *testing.T) {
	for s, want := range map[string]int{"": 1, "A": 323, "AB": 323*257 + 67, "\xff": 257 + 256, "\x00": 258, "AAAAAAAAAA": sum("AAAAAAAAAA"), strings.Repeat("\xff", 3000): sum(strings.Repeat("\xff", 3000))} {
		if n := pack.Sum(s); n != want || n < 0 || n >= 4294967291 {
			t.Errorf("Sum of %q: %d; want %d", s, n, want)
		}
	}
}

// P25.1: a workbook's file, byte by byte.
func TestEncode(t *testing.T) {
	want := file(t, bodies()...)
	if s, err := pack.Encode(sheets()); s != want || err != api.OK {
		t.Errorf("%q, error %d; want\n%q", s, err, want)
	}
	one := api.Book{Sheets: []api.Sheet{{Name: "S"}}}
	if s, err := pack.Encode(one); len(s) != 62 || s != file(t, "0001 0001 53", "01 0000 0000", "00", "00", "00") || err != api.OK {
		t.Errorf("%q, %d bytes, error %d", s, len(s), err)
	}
}

// most is a workbook that has as much as there may be of each thing.
func most() api.Book {
	var b api.Book
	long := func(s string, n int) string { return s + strings.Repeat("x", n-len(s)) }
	for i := range 8 {
		b.Sheets = append(b.Sheets, api.Sheet{Name: long("S"+strconv.Itoa(i), 30)})
	}
	for i := range 400 {
		b.Sheets[7].Cells = append(b.Sheets[7].Cells, api.Cell{Row: 199 - 399/52 + i/52, Col: i % 52, Input: long("c"+strconv.Itoa(i)+"_", 200)})
	}
	for i := range 40 {
		b.Names = append(b.Names, api.Name{Name: long("n."+strconv.Itoa(i)+".", 30), Sheet: 7, Input: "=\"" + long("n"+strconv.Itoa(i)+"_", 197) + "\""})
	}
	for i := range 10 {
		t := api.Table{Name: long("t."+strconv.Itoa(i)+".", 30), Sheet: 6, Row: 2 * i, Rows: 1}
		for k := range 52 {
			t.Cols = append(t.Cols, long("k"+strconv.Itoa(i)+"_"+strconv.Itoa(k)+"_", 30))
		}
		b.Tables = append(b.Tables, t)
	}
	for i := range 20 {
		b.Rules = append(b.Rules, api.Rule{Area: api.Area{Sheet: 7, Rows: 200, Cols: 52}, Formula: "=\"" + long("r"+strconv.Itoa(i)+"_", 197) + "\"", Style: 99})
	}
	return b
}

// P25.1, P25.2: the greatest workbook has a file, too.
func TestMost(t *testing.T) {
	s, err := pack.Encode(most())
	if err != api.OK || len(s) > api.MaxBytes {
		t.Fatalf("%d bytes, error %d", len(s), err)
	}
	if b, at, err := pack.Decode(s); !book.Same(b, most()) || at != 0 || err != api.OK {
		t.Errorf("Decode: at %d, error %d", at, err)
	}
}

func refuse(t *testing.T, s string, at int, want api.Errno) {
	t.Helper()
	if b, place, err := pack.Decode(s); !book.Same(b, api.Book{}) || place != at || err != want {
		t.Errorf("Decode of %q: at %d, error %d; want %d, %d", s[:min(len(s), 300)], place, err, at, want)
	}
}

// P25.1, P25.2: what is wrong.
func TestWrong(t *testing.T) {
	bad := sheets()
	bad.Names[0].Name = ""
	for b, want := range map[*api.Book]api.Errno{&bad: api.ErrName, {}: api.ErrLimit} {
		if s, err := pack.Encode(*b); s != "" || err != want {
			t.Errorf("Encode: %q, error %d; want %d", s, err, want)
		}
	}
	good := file(t, bodies()...)
	refuse(t, "X", 0, api.ErrPack)
	refuse(t, "TBX", 2, api.ErrPack)
	refuse(t, "TBL2"+good[4:], 3, api.ErrPack)
	refuse(t, "tBL1"+good[4:], 0, api.ErrPack)
	refuse(t, "TBL1\x02", 4, api.ErrPack)
	refuse(t, "TBL1\x00", 4, api.ErrPack)
	refuse(t, "TBL1\x01\xff\xff\xff\xff", 9, api.ErrShort)
	refuse(t, "TBL1\x01\x00\x00\x00\x00", 9, api.ErrShort)
	refuse(t, "TBL1\x01\x00\x00\x00\x00\x00\x00\x00\x01", 13, api.ErrShort)
	refuse(t, "TBL1\x01\x00\x00\x00\x00\x00\x00\x00\x00", 9, api.ErrSum)
	refuse(t, "TBL1\x01\x00\x00\x00\x00\x00\x00\x00\x00x", 9, api.ErrSum)
	refuse(t, "TBL1\x01\x00\x00\x00\x00\x00\x00\x00\x01x", 13, api.ErrPack)
	refuse(t, good+"\x00", len(good), api.ErrPack)
	refuse(t, good+good, len(good), api.ErrPack)
	refuse(t, good+strings.Repeat("x", api.MaxBytes-len(good)), len(good), api.ErrPack)
	refuse(t, good+strings.Repeat("x", api.MaxBytes-len(good)+1), 0, api.ErrPack)
	refuse(t, strings.Repeat("x", api.MaxBytes+1), 0, api.ErrPack)
	first := file(t, bodies()[0])
	refuse(t, first+file(t, bodies()[1:]...)[4:], len(first), api.ErrPack)
	refuse(t, first[:len(first)-1]+"\x00"+"x", len(first)-4, api.ErrSum)
}

// P25.2: a body that is none of a workbook, or not the one that its workbook has, with a sum that is right.
func TestBodies(t *testing.T) {
	for i, list := range [][]string{
		{"", "0008 0001 31 0003 3d4131 0005 3d41313e31 0005 3d53214131 0001 53 0001 54 0003 612062 0001 6e", bodies()[0] + "00", bodies()[0][5:], "0001", "0009", "0009 0002 31", "ffff" + bodies()[0][4:], "000a" + bodies()[0][4:], "000a" + bodies()[0][4:] + "0001 7a", "000a" + bodies()[0][4:] + "0003 746162", strings.Replace(bodies()[0], "0001 53 0001 54", "0001 54 0001 53", 1), strings.Replace(bodies()[0], "0001 31", "0001 0a", 1), strings.Replace(bodies()[0], "0001 31", "0000", 1)},
		{"", "00", "01 0004 0002 00 01 00 33 0000 0001", bodies()[1] + "00", "03" + bodies()[1][2:], "03" + bodies()[1][2:] + "0005 0000", "02 0004 ffff 00 01", "02 0004 0002 00 01 00 33 0000 0001  0005", "02 0009 0002 00 01 00 33 0000 0001  0005 0000", "02 0004 0002 01 00 33 00 0001 0000  0005 0000", "02 0004 0002 00 c8 00 33 0000 0001  0005 0000", "02 0004 0002 00 01 00 34 0000 0001  0005 0000", "02 0004 0002 00 01 00 33 0000 ffff  0005 0000"},
		{"", bodies()[2] + "00", "02 0007 0004 00 03 0003 0001", "02 0007 0004 00 ff 0003 0001", "02 0007 0004 00 02 0003", "ff", "02 0007 0000 00 02 0003 0001", "02 0007 0004 00 00 0003 0001"},
		{"", "00", bodies()[3] + "00", "01 0008 02 02 03 04 02 0006 0007", "01 0008 01 02 03 04 03 0006 0007", "01 0008 01 02 03 04 03 0006 0007 0007", "01 0008 01 02 03 00 02 0006 0007", "01 0008 01 c8 03 04 02 0006 0007", "ff 0008 01 02 03 04 02 0006 0007"},
		{"", "00", bodies()[4] + "00", bodies()[4][:len(bodies()[4])-2], "02  00 01 02 c7 04 0002 63 00  01 00 00 01 01 0001 00 02", "02  00 01 02 c7 04 0002 63 00  01 00 00 01 01 0001 00 00", "02  00 01 02 c7 04 0002 63 01  01 00 00 01 01 0001 00 01", "02  00 01 02 c7 04 0002 64 00  01 00 00 01 01 0001 00 01", "02  00 01 02 c8 04 0002 63 00  01 00 00 01 01 0001 00 01", "02  02 01 02 c7 04 0002 63 00  01 00 00 01 01 0001 00 01", "02  00 01 02 c7 04 0000 63 00  01 00 00 01 01 0001 00 01"},
	} {
		for _, body := range list {
			all := bodies()
			all[i] = body
			if b, at, err := pack.Decode(file(t, all...)); !book.Same(b, api.Book{}) || at != 0 || err != api.ErrPack {
				t.Errorf("section %d of %s: %+v, at %d, error %d", i+1, body, b, at, err)
			}
		}
	}
}

// P25.2, P25.3: each beginning of a file is too short, where it ends; each other byte in a body or a sum is told by the sum.
func TestEachByte(t *testing.T) {
	good := file(t, bodies()...)
	for i := range good {
		refuse(t, good[:i], i, api.ErrShort)
	}
	at := 4
	for _, body := range bodies() {
		from, to := at+5, at+5+len(bytes(t, body))
		for i := from; i < to+4; i++ {
			for _, c := range []byte{good[i] + 1, good[i] ^ 0x80, 0xff - good[i]} {
				refuse(t, good[:i]+string([]byte{c})+good[i+1:], to, api.ErrSum)
			}
		}
		refuse(t, good[:at]+"\x09"+good[at+1:], at, api.ErrPack)
		refuse(t, good[:at+1]+"\x7f"+good[at+2:], len(good), api.ErrShort)
		at = to + 4
	}
}

// P25.3: Decode undoes Encode; unlike workbooks have unlike files; and whatever is read has that file.
func TestMany(t *testing.T) {
	d := dice(1)
	files := map[string]api.Book{}
	for range 300 {
		b := d.book()
		s, err := pack.Encode(b)
		if err != api.OK {
			t.Fatalf("Encode of %+v: error %d", b, err)
		}
		if other, found := files[s]; found && !book.Same(other, b) {
			t.Fatalf("%+v and %+v have one file", other, b)
		}
		files[s] = b
		got, at, err := pack.Decode(s)
		if !book.Same(got, b) || at != 0 || err != api.OK {
			t.Fatalf("Decode of the file of %+v: %+v, at %d, error %d", b, got, at, err)
		}
		i := d.below(len(s))
		refuse(t, s[:i], i, api.ErrShort)
		odd := []byte(s)
		odd[i] ^= byte(1 + d.below(255))
		if got, at, err := pack.Decode(string(odd)); err == api.OK || len(got.Sheets) > 0 || at > len(s) {
			t.Fatalf("Decode with another byte at %d: at %d, error %d", i, at, err)
		}
	}
}

// P25.2, P25.3: what is read of bodies in which bytes are others, with sums that are right, is a right workbook that has that file.
func TestOddBodies(t *testing.T) {
	d, read := dice(3), 0
	for range 20000 {
		list := bodies()
		i := d.below(5)
		body := []byte(bytes(t, list[i]))
		body[d.below(len(body))] = byte(d.below(9) * d.below(30))
		all := "TBL1"
		for k, x := range list {
			x = bytes(t, x)
			if k == i {
				x = string(body)
			}
			all += string(rune(k+1)) + four(len(x)) + x + four(sum(x))
		}
		b, at, err := pack.Decode(all)
		switch {
		case err == api.OK:
			read++
			again, wrong := pack.Encode(b)
			if again != all || wrong != api.OK || at != 0 {
				t.Fatalf("%q is read as %+v, and has another file", all, b)
			}
		case err != api.ErrPack || at != 0 || len(b.Sheets) > 0:
			t.Fatalf("%q: at %d, error %d", all, at, err)
		}
	}
	if read < 1000 {
		t.Errorf("only %d files are read", read)
	}
}
