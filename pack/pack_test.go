package pack

import (
	"fmt"
	"math"
	"math/rand"
	"slices"
	"strings"
	"testing"

	"bywash/api"
	"bywash/squeeze"
	"bywash/table"
	"bywash/varint"
)

func field(name, value string) api.Field { return api.Field{Name: name, Value: value} }

// costing tells a field of that Name that costs so much, of bytes that are longer squeezed.
func costing(name string, cost int) api.Field {
	return field(name, strings.Repeat("Q", cost-len(name)-api.EntryMore))
}

// num, raw and pressed tell the bytes of a number, of a text, and of one that is squeezed.
func num(first byte, bits, n int) string {
	b, ok := varint.Put(first, bits, n)
	if !ok {
		panic(fmt.Sprint("varint.Put of ", first, bits, n))
	}
	return b
}

func raw(s string) string { return num(0, 7, len(s)) + s }

func pressed(s string) string { return num(128, 7, squeeze.Len(s)) + squeeze.Put(s) }

func checkPack(t *testing.T, p *Packer, want string, l ...api.Field) {
	t.Helper()
	if got := p.Pack(l...); got != want {
		t.Errorf("Pack(%q): %q, not %q", l, got, want)
	}
}

func checkUnpack(t *testing.T, u *Unpacker, b string, want ...api.Field) {
	t.Helper()
	got, e := u.Unpack(b)
	if e != api.OK || !slices.Equal(got, want) {
		t.Errorf("Unpack(%q): %q %d, not %q", b, got, e, want)
	}
}

func checkRefused(t *testing.T, u *Unpacker, b string, want api.Errno) {
	t.Helper()
	got, e := u.Unpack(b)
	if e != want || len(got) != 0 {
		t.Errorf("Unpack(%q): %q %d, not error %d", b, got, e, want)
	}
}

// checkTable holds a table against its size and those added, the last one first.
func checkTable(t *testing.T, x *table.Table, size int, want ...api.Field) {
	t.Helper()
	if x == nil || x.Size() != size || !slices.Equal(x.All(), want) {
		t.Errorf("Table: %d %q, not %d %q", x.Size(), x.All(), size, want)
	}
}

// limited tells a Packer with that Limit in force.
func limited(size int) *Packer {
	p := NewPacker()
	p.Limit(size)
	p.Pack()
	return p
}

// unpacker tells an Unpacker with those in its table, from the left.
func unpacker(t *testing.T, most int, l ...api.Field) *Unpacker {
	t.Helper()
	u := NewUnpacker(most)
	if u == nil {
		t.Fatalf("NewUnpacker(%d): nil", most)
	}
	for _, f := range l {
		if _, e := u.Unpack("\x40" + raw(f.Name) + raw(f.Value)); e != api.OK {
			t.Fatalf("Unpack of %q: %d", f, e)
		}
	}
	return u
}

func TestBothBeginP501(t *testing.T) {
	checkTable(t, NewPacker().Table(), 128)
	for _, most := range []int{128, 129, 511, 512} {
		checkTable(t, unpacker(t, most).Table(), 128)
	}
}

func TestNewUnpackerP501(t *testing.T) {
	for _, most := range []int{math.MinInt, -128, -1, 0, 1, 127, 513, 1024, math.MaxInt} {
		if NewUnpacker(most) != nil {
			t.Errorf("NewUnpacker(%d): not nil", most)
		}
	}
	for _, most := range []int{128, 129, 300, 511, 512} {
		if NewUnpacker(most) == nil {
			t.Errorf("NewUnpacker(%d): nil", most)
		}
	}
}

func TestPackOfWhatIsAlwaysThereP501(t *testing.T) {
	p := NewPacker()
	checkPack(t, p, "\x82", field(":method", "GET")) // the document's own
	for i := 1; i <= 16; i++ {
		f, _ := p.Table().At(i)
		checkPack(t, p, string([]byte{byte(128 + i)}), f)
	}
	checkPack(t, p, "\x82\x86\x84\x81\x82", field(":method", "GET"), field(":scheme", "https"), field(":path", "/"), field(":authority", ""), field(":method", "GET"))
	checkPack(t, p, "")
	checkTable(t, p.Table(), 128)
	checkPack(t, limited(0), "\x82\x90", field(":method", "GET"), field("user-agent", ""))
}

func TestPackOfANameP501(t *testing.T) {
	for _, c := range []struct {
		name  string
		place byte
	}{
		{":authority", 1}, {":method", 2}, {":path", 4}, {":scheme", 5}, {":status", 7}, {"accept", 11},
		{"content-length", 12}, {"content-type", 13}, {"cookie", 14}, {"date", 15}, {"user-agent", 16},
	} {
		f := field(c.name, "Q")
		p := NewPacker()
		checkPack(t, p, string([]byte{64 + c.place, 1, 'Q'}), f)
		checkTable(t, p.Table(), 128, f)
		checkPack(t, p, "\x91", f)
		// One that is not Added has four bits for the place: from 15 on it takes a second byte.
		want := string([]byte{c.place, 1, 'Q'})
		if c.place >= 15 {
			want = string([]byte{15, c.place - 15, 1, 'Q'})
		}
		p = limited(0)
		checkPack(t, p, want, f)
		checkPack(t, p, want, f)
		checkTable(t, p.Table(), 0)
	}
}

func TestPackOfNeitherP501(t *testing.T) {
	p := NewPacker()
	checkPack(t, p, "\x40\x01Z\x01Q", field("Z", "Q"))
	checkPack(t, p, "\x40\x00\x00", field("", ""))
	checkPack(t, p, "\x40\x02\x00\xff\x01\x80", field("\x00\xff", "\x80"))
	checkTable(t, p.Table(), 128, field("\x00\xff", "\x80"), field("", ""), field("Z", "Q"))
	p = limited(0)
	checkPack(t, p, "\x00\x01Z\x01Q", field("Z", "Q"))
	checkPack(t, p, "\x00\x00\x00", field("", ""))
	checkPack(t, p, "\x00\x01Z\x01Q", field("Z", "Q"))
	checkTable(t, p.Table(), 0)
}

func TestPackOfAddedP501(t *testing.T) {
	p := NewPacker()
	// What one field of a list adds the next ones find.
	checkPack(t, p, "\x40\x01Z\x01Q\x91\x51\x01K\x91\x92", field("Z", "Q"), field("Z", "Q"), field("Z", "K"), field("Z", "K"), field("Z", "Q"))
	checkTable(t, p.Table(), 128, field("Z", "K"), field("Z", "Q"))
	checkPack(t, p, "\x92\x91", field("Z", "Q"), field("Z", "K"))
	// The least place of a Name, and just the field ahead of its Name alone.
	checkPack(t, p, "\x51\x00", field("Z", ""))
	checkPack(t, p, "\x93", field("Z", "Q"))
	// Just three of these have room.
	checkPack(t, p, "\x51\x01J", field("Z", "J"))
	checkTable(t, p.Table(), 128, field("Z", "J"), field("Z", ""), field("Z", "K"))
	checkPack(t, p, "\x51\x01Q", field("Z", "Q"))
	checkTable(t, p.Table(), 128, field("Z", "Q"), field("Z", "J"), field("Z", ""))
}

func TestPackOfANameThatGoesP501(t *testing.T) {
	// The Name's place is that ahead of the Add, though the Add drives that one out.
	a, b := costing("Z", 60), costing("Y", 60)
	p := NewPacker()
	p.Pack(a, b)
	c := costing("Z", 50)
	checkPack(t, p, "\x52"+raw(c.Value), c)
	checkTable(t, p.Table(), 128, c, b)
}

func TestPackOfTheLastPlacesP501(t *testing.T) {
	p := NewPacker()
	p.Limit(512)
	var want []api.Field
	for c := range 15 {
		f := field(string([]byte{byte('A' + c)}), "")
		p.Pack(f)
		want = append(want, f)
	}
	slices.Reverse(want)
	checkTable(t, p.Table(), 512, want...)
	checkPack(t, p, "\x91\x9f", want[0], want[14])
	checkPack(t, limited(512), "\x0f\x00"+raw(strings.Repeat("Q", 253)), costing("date", 289))
	// A place behind 16, of one that is not Added.
	f := costing("A", 257)
	checkPack(t, p, "\x0f\x10"+num(0, 7, 224)+f.Value, f)
	checkTable(t, p.Table(), 512, want...)
}

func TestHalfOfTheSizeP501(t *testing.T) {
	for _, c := range []struct{ size, cost int }{
		{64, 32}, {65, 32}, {66, 33}, {73, 36}, {127, 63}, {128, 64}, {129, 64}, {400, 200}, {511, 255}, {512, 256},
	} {
		for _, name := range []string{"", "Z", "date"} {
			place := map[string]int{"date": 15}[name]
			tail := func(f api.Field) string {
				if place == 0 {
					return raw(f.Name) + raw(f.Value)
				}
				return raw(f.Value)
			}
			if c.cost < len(name)+32 {
				continue
			}
			p := limited(c.size)
			f := costing(name, c.cost+1)
			checkPack(t, p, num(0, 4, place)+tail(f), f)
			checkTable(t, p.Table(), c.size)
			f = costing(name, c.cost)
			if f == field("date", "") {
				continue // it is in the table
			}
			checkPack(t, p, num(64, 6, place)+tail(f), f)
			checkTable(t, p.Table(), c.size, f)
		}
	}
	for _, size := range []int{0, 1, 32, 63} {
		p := limited(size)
		checkPack(t, p, "\x00\x00\x00", field("", ""))
		checkTable(t, p.Table(), size)
	}
	// Of FirstTable, without any Limit; and one that is not Added drives none out.
	p := NewPacker()
	checkPack(t, p, "\x40\x00"+raw(strings.Repeat("Q", 32)), costing("", 64))
	checkPack(t, p, "\x0f\x02"+raw(strings.Repeat("Q", 33)), costing("", 65))
	checkPack(t, p, "\x0f\x02"+raw(strings.Repeat("Q", 5000)), costing("", 5032))
	checkTable(t, p.Table(), 128, costing("", 64))
}

func TestTextsP501(t *testing.T) {
	for _, c := range []struct{ text, want string }{
		{"", "\x00"},
		{"a", "\x01a"},       // as long: 5 bits
		{"aa", "\x02aa"},     // as long: 10 bits
		{"b", "\x01b"},       // as long: 7 bits
		{"Z", "\x01Z"},       // longer: 10 bits
		{"ZZZZ", "\x04ZZZZ"}, // longer: 40 bits
		{"2026", "\x83\x10\x04\x6f"},
		{"a0a0", "\x83\x50\x14\x0f"},
		{"aaa", "\x82\x52\x95"}, // shorter: 15 bits
		{"bbbbbbb", "\x07bbbbbbb"},
		{"bbbbbbbb", pressed("bbbbbbbb")},
		{"Zbbbbbb", "\x07Zbbbbbb"}, // as long: 52 bits
		{"Zaa", "\x03Zaa"},         // as long: 20 bits
		{"Zaaaa", pressed("Zaaaa")},
		{"\x00\xff", "\x02\x00\xff"},
		{strings.Repeat("Z", 126), "\x7e" + strings.Repeat("Z", 126)},
		{strings.Repeat("Z", 127), "\x7f\x00" + strings.Repeat("Z", 127)},
		{strings.Repeat("Z", 128), "\x7f\x01" + strings.Repeat("Z", 128)},
		{strings.Repeat("Z", 300), "\x7f\xad\x01" + strings.Repeat("Z", 300)},
		{strings.Repeat("0", 200), "\xfd" + strings.Repeat("\x00", 125)},
		{strings.Repeat("0", 208), "\xff\x03" + strings.Repeat("\x00", 130)},
	} {
		checkPack(t, limited(0), "\x00"+c.want+c.want, field(c.text, c.text))
		checkPack(t, limited(0), "\x04"+c.want, field(":path", c.text)) // the Value alone
		if len(c.text) > 16 {
			continue
		}
		checkPack(t, NewPacker(), "\x40"+c.want+c.want, field(c.text, c.text))
		checkPack(t, NewPacker(), "\x40"+c.want+"\x01Q", field(c.text, "Q"))
		checkPack(t, NewPacker(), "\x40\x01Q"+c.want, field("Q", c.text))
		checkPack(t, NewPacker(), "\x44"+c.want, field(":path", c.text))
	}
}

func TestLimitP501(t *testing.T) {
	for _, c := range []struct {
		limit, size int
		want        string
	}{
		{math.MinInt, 0, "\x20"},
		{-1, 0, "\x20"},
		{0, 0, "\x20"},
		{1, 1, "\x21"},
		{30, 30, "\x3e"},
		{31, 31, "\x3f\x00"},
		{68, 68, "\x3f\x25"},
		{128, 128, "\x3f\x61"}, // it is told, though it is the table's size
		{158, 158, "\x3f\x7f"},
		{159, 159, "\x3f\x80\x01"},
		{511, 511, "\x3f\xe0\x03"},
		{512, 512, "\x3f\xe1\x03"},
		{513, 512, "\x3f\xe1\x03"},
		{9999, 512, "\x3f\xe1\x03"},
		{math.MaxInt, 512, "\x3f\xe1\x03"},
	} {
		p := NewPacker()
		p.Limit(c.limit)
		checkTable(t, p.Table(), 128) // not ahead of the Pack
		checkPack(t, p, c.want+"\x82", field(":method", "GET"))
		checkTable(t, p.Table(), c.size)
		checkPack(t, p, "\x82", field(":method", "GET")) // none since the last Pack
		checkTable(t, p.Table(), c.size)
		p.Limit(c.limit)
		checkPack(t, p, c.want)
		checkPack(t, p, "")
	}
}

func TestLimitTwiceP501(t *testing.T) {
	a, b := field("Z", "Q"), field("Z", "K")
	p := NewPacker()
	p.Pack(a, b)
	// The last one counts alone: what the first would drive out stays.
	p.Limit(0)
	p.Limit(68)
	checkTable(t, p.Table(), 128, b, a)
	checkPack(t, p, "\x3f\x25\x92\x91", a, b)
	checkTable(t, p.Table(), 68, b, a)
	p.Limit(512)
	p.Limit(67)
	checkPack(t, p, "\x3f\x24")
	checkTable(t, p.Table(), 67, b)
	p.Limit(300)
	p.Limit(-7)
	p.Limit(33)
	checkPack(t, p, "\x3f\x02")
	checkTable(t, p.Table(), 33)
}

func TestLimitAheadOfFieldsP501(t *testing.T) {
	a := field("Z", "Q")
	p := NewPacker()
	p.Pack(a)
	// What a smaller size drives out is not found any more; half of the new size counts.
	p.Limit(33)
	checkPack(t, p, "\x3f\x02\x00\x01Z\x01Q", a)
	checkTable(t, p.Table(), 33)
	p.Limit(68)
	checkPack(t, p, "\x3f\x25\x40\x01Z\x01Q\x91", a, a)
	checkTable(t, p.Table(), 68, a)
	great := costing("Z", 100)
	checkPack(t, p, "\x0f\x02"+raw(great.Value), great)
	p.Limit(200)
	checkPack(t, p, "\x3f\xa9\x01\x51"+raw(great.Value), great)
	checkTable(t, p.Table(), 200, great, a)
}

func TestPackersAreApartP501(t *testing.T) {
	p, q := NewPacker(), NewPacker()
	p.Limit(300)
	p.Pack(field("Z", "Q"))
	checkTable(t, q.Table(), 128)
	checkPack(t, q, "\x40\x01Z\x01Q", field("Z", "Q"))
	checkTable(t, p.Table(), 300, field("Z", "Q"))
}

func TestPackKeepsNothingOfItsListP501(t *testing.T) {
	a, b := field("Z", "Q"), field("Y", "K")
	l := []api.Field{a, b, a}
	p := NewPacker()
	p.Pack(l...)
	if !slices.Equal(l, []api.Field{a, b, a}) {
		t.Errorf("Pack wrote into its list: %q", l)
	}
	l[0], l[1], l[2] = field("X", ""), field("W", ""), field("V", "")
	checkTable(t, p.Table(), 128, b, a)
	checkPack(t, p, "\x92\x91", a, b)
}

func TestTableIsItsOwnP501(t *testing.T) {
	p, u := NewPacker(), NewUnpacker(128)
	ofP, ofU := p.Table(), u.Table()
	checkUnpack(t, u, p.Pack(field("Z", "Q")), field("Z", "Q"))
	checkTable(t, ofP, 128, field("Z", "Q"))
	checkTable(t, ofU, 128, field("Z", "Q"))
}

func TestUnpackOfPlacesP502(t *testing.T) {
	for i := 1; i <= 16; i++ {
		f, _ := table.New(0).At(i)
		u := unpacker(t, 128)
		checkUnpack(t, u, string([]byte{byte(128 + i)}), f)
		checkTable(t, u.Table(), 128)
	}
	u := unpacker(t, 128, field("Z", "Q"), field("Y", "K"))
	checkUnpack(t, u, "\x91\x92\x82\x91", field("Y", "K"), field("Z", "Q"), field(":method", "GET"), field("Y", "K"))
	checkUnpack(t, u, "")
	checkTable(t, u.Table(), 128, field("Y", "K"), field("Z", "Q"))
}

func TestUnpackOfAddedP502(t *testing.T) {
	u := unpacker(t, 128)
	checkUnpack(t, u, "\x40\x01Z\x01Q\x91\x51\x01K\x91\x92", field("Z", "Q"), field("Z", "Q"), field("Z", "K"), field("Z", "K"), field("Z", "Q"))
	checkTable(t, u.Table(), 128, field("Z", "K"), field("Z", "Q"))
	checkUnpack(t, u, "\x42\x01Q", field(":method", "Q"))
	checkTable(t, u.Table(), 128, field(":method", "Q"), field("Z", "K"), field("Z", "Q"))
	// Also what a Packer would not add: one that is there, one above half of the size, one above all of it.
	checkUnpack(t, u, "\x42\x03GET", field(":method", "GET"))
	checkTable(t, u.Table(), 128, field(":method", "GET"), field(":method", "Q"), field("Z", "K"))
	f := costing("Z", 128)
	checkUnpack(t, u, "\x40\x01Z"+raw(f.Value)+"\x91", f, f)
	checkTable(t, u.Table(), 128, f)
	g := costing("Z", 129)
	checkUnpack(t, u, "\x51"+raw(g.Value)+"\x82", g, field(":method", "GET"))
	checkTable(t, u.Table(), 128)
}

func TestUnpackOfNotAddedP502(t *testing.T) {
	for _, first := range []byte{0, 16} {
		u := unpacker(t, 128, field("Z", "Q"))
		checkUnpack(t, u, num(first, 4, 0)+"\x01Y\x01K", field("Y", "K"))
		checkUnpack(t, u, num(first, 4, 2)+"\x01K", field(":method", "K"))
		checkUnpack(t, u, num(first, 4, 14)+"\x01K", field("cookie", "K"))
		checkUnpack(t, u, num(first, 4, 15)+"\x01K", field("date", "K"))
		checkUnpack(t, u, num(first, 4, 17)+"\x00", field("Z", ""))
		checkUnpack(t, u, num(first, 4, 0)+"\x00\x00"+num(first, 4, 1)+"\x00", field("", ""), field(":authority", ""))
		checkTable(t, u.Table(), 128, field("Z", "Q"))
	}
}

func TestUnpackOfTextsP502(t *testing.T) {
	for _, s := range []string{"", "a", "aa", "aaa", "Z", "ZZZZ", "2026", "\x00\xff\x80", "bbbbbbbb", strings.Repeat("Z", 126), strings.Repeat("Z", 127), strings.Repeat("0", 208), strings.Repeat("Z", 200)} {
		// Squeezed or not, whichever is shorter.
		for _, value := range []string{raw(s), pressed(s)} {
			checkUnpack(t, unpacker(t, 128), "\x04"+value, field(":path", s))
			checkUnpack(t, unpacker(t, 128), "\x00"+value+raw(""), field(s, ""))
			checkUnpack(t, unpacker(t, 128), "\x10"+value+value, field(s, s))
			checkUnpack(t, unpacker(t, 128), "\x40"+value+value+"\x82", field(s, s), field(":method", "GET"))
		}
	}
	// Numbers that take more bytes than they need.
	checkUnpack(t, unpacker(t, 128), "\x0f\x80\x80\x00\x01Q", field("date", "Q"))
	checkUnpack(t, unpacker(t, 128), "\x3f\x80\x80\x80\x80\x00\x82", field(":method", "GET"))
}

func TestUnpackOfANumberThatIsNotRightP502(t *testing.T) {
	for _, b := range []string{
		"\xff", "\xff\x80", "\x7f", "\x7f\xff", "\x3f", "\x3f\x80", "\x1f", "\x1f\x80", "\x0f", "\x0f\xff", // end early
		"\x40", "\x42", "\x00", "\x02", "\x10", "\x12", // a text's length lacks
		"\x40\x7f", "\x40\xff", "\x40\x7f\x80", "\x40\x01Z\x7f", "\x40\x01Z\xff\x80",
		"\xff\x80\x80\x80\x80\x80", "\x7f\x80\x80\x80\x80\x80\x00", "\x3f\x80\x80\x80\x80\x80", "\x0f\xff\xff\xff\xff\x7f", "\x1f\xff\xff\xff\xff\x08", // too great
		"\x40\x7f\x80\x80\x80\x80\x80", "\x42\xff\xff\xff\xff\xff\x7f", "\x00\x01Z\x7f\xff\xff\xff\xff\xff\xff",
	} {
		checkRefused(t, unpacker(t, 128), b, api.ErrPack)
		checkRefused(t, unpacker(t, 512), "\x82"+b, api.ErrPack)
	}
}

func TestUnpackOfATextThatIsNotRightP502(t *testing.T) {
	for _, text := range []string{
		"\x01", "\x05abcd", "\x7f\x00" + strings.Repeat("x", 126), "\x7f\xff\xff\xff\xff\x06abc", // end early
		"\x81", "\x83\x10\x04", "\xff\x00\x00",
		"\x81\xff", "\x81\x00", "\x82\xf4\x3f", "\x84\x10\x04\x6f\xff", "\x83\x10\x04\x6e", // not right squeezed
	} {
		for _, ahead := range []string{"\x40", "\x40\x01Z", "\x42", "\x00", "\x00\x00", "\x02", "\x10", "\x10\x01Z", "\x1f\x00"} {
			checkRefused(t, unpacker(t, 128), ahead+text, api.ErrPack)
		}
	}
	checkRefused(t, unpacker(t, 128), "\x40\x81\xff\x01Q", api.ErrPack)
	checkRefused(t, unpacker(t, 128), "\x00\x81\x00\x01Q\x82", api.ErrPack)
}

func TestUnpackOfEachPieceP502(t *testing.T) {
	forms := []string{
		"\x3f\x45", "\x3f\x61", "\x82", "\x40\x01Z\x01Q", "\x91", "\x51" + pressed("2026"), "\x0f\x00\x02QQ",
		"\x10" + pressed("2026") + raw("KK"), "\x1f\x02" + raw("J"), "\x40" + raw("") + raw(""), "\x93",
	}
	whole := map[int]bool{0: true}
	all := ""
	for _, f := range forms {
		all += f
		whole[len(all)] = true
	}
	for n := range len(all) + 1 {
		u := unpacker(t, 128)
		if _, e := u.Unpack(all[:n]); (e == api.OK) != whole[n] || e != api.OK && e != api.ErrPack {
			t.Errorf("Unpack(%q): %d", all[:n], e)
		}
	}
	checkUnpack(t, unpacker(t, 128), all, field(":method", "GET"), field("Z", "Q"), field("Z", "Q"), field("Z", "2026"), field("date", "QQ"),
		field("2026", "KK"), field("Z", "J"), field("", ""), field("Z", "Q"))
}

func TestUnpackOfNoPlaceP502(t *testing.T) {
	for _, added := range []int{0, 1, 2} {
		last := 16 + added
		for _, place := range []int{last + 1, last + 2, 126, 127, 5000, math.MaxInt32} {
			for _, b := range []string{num(128, 7, place), num(64, 6, place) + "\x01Q", num(0, 4, place) + "\x01Q", num(16, 4, place) + "\x01Q"} {
				l := []api.Field{field("Z", "Q"), field("Y", "K")}[:added]
				checkRefused(t, unpacker(t, 128, l...), b, api.ErrPack)
				checkRefused(t, unpacker(t, 128, l...), "\x82"+b+"\x82", api.ErrPack)
			}
		}
		checkUnpack(t, unpacker(t, 128, field("Z", "Q"), field("Z", "Q")), "\x92\x0f\x03\x00\x52\x01K", field("Z", "Q"), field("Z", ""), field("Z", "K"))
	}
	for _, b := range []string{"\x80", "\x80\x82", "\x82\x80"} {
		checkRefused(t, unpacker(t, 128), b, api.ErrPack)
	}
	// One that a smaller size, or another one, drove out.
	checkRefused(t, unpacker(t, 128, field("Z", "Q")), "\x3f\x02\x91", api.ErrPack)
	checkRefused(t, unpacker(t, 128, field("Z", "Q")), "\x40\x00"+raw(strings.Repeat("x", 96))+"\x92", api.ErrPack)
}

func TestUnpackOfSizesP502(t *testing.T) {
	for _, c := range []struct{ most, size int }{
		{128, 0}, {128, 1}, {128, 31}, {128, 127}, {128, 128}, {129, 129}, {300, 0}, {300, 300}, {512, 511}, {512, 512},
	} {
		u := unpacker(t, c.most)
		checkUnpack(t, u, num(32, 5, c.size)+"\x82", field(":method", "GET"))
		checkTable(t, u.Table(), c.size)
		checkUnpack(t, u, num(32, 5, 0)+num(32, 5, c.size))
		checkTable(t, u.Table(), c.size)
		checkUnpack(t, u, num(32, 5, c.size)+num(32, 5, 0)) // again twice: each Unpack counts anew
		checkTable(t, u.Table(), 0)
	}
	// Each of two is taken, so that the smaller one drives out.
	u := unpacker(t, 512, field("Z", "Q"), field("Z", "K"))
	checkUnpack(t, u, "\x3f\x03\x3f\xe1\x03\x91", field("Z", "K"))
	checkTable(t, u.Table(), 512, field("Z", "K"))
}

func TestUnpackOfASizeAboveMostP502(t *testing.T) {
	for _, c := range []struct{ most, size int }{
		{128, 129}, {128, 512}, {128, math.MaxInt32}, {129, 130}, {511, 512}, {512, 513}, {512, 5000}, {512, math.MaxInt32},
	} {
		for _, ahead := range []string{"", "\x3f\x21"} {
			u := unpacker(t, c.most, field("Z", "Q"))
			checkRefused(t, u, ahead+num(32, 5, c.size), api.ErrPack)
			size := 128
			if ahead != "" {
				size = 64
			}
			checkTable(t, u.Table(), size, field("Z", "Q"))
		}
	}
}

func TestUnpackOfASizeBehindAFieldP502(t *testing.T) {
	for _, f := range []string{"\x82", "\x40\x01Z\x01Q", "\x42\x01Q", "\x00\x00\x00", "\x02\x00", "\x10\x01Z\x01Q", "\x12\x00"} {
		for _, size := range []string{"\x20", "\x3f\x61"} {
			u := unpacker(t, 128)
			checkRefused(t, u, f+size, api.ErrPack)
			if u.Table().Size() != 128 {
				t.Errorf("Unpack(%q): the size is %d", f+size, u.Table().Size())
			}
			checkRefused(t, unpacker(t, 128), size+f+size, api.ErrPack)
			checkRefused(t, unpacker(t, 128), f+f+size+f, api.ErrPack)
		}
		// Another Unpack begins anew.
		u := unpacker(t, 128)
		u.Unpack(f)
		if _, e := u.Unpack("\x3f\x61" + f); e != api.OK {
			t.Errorf("Unpack of a size in a later one than %q: %d", f, e)
		}
	}
}

func TestUnpackOfAThirdSizeP502(t *testing.T) {
	for _, b := range []string{"\x20\x20\x20", "\x3f\x61\x3f\x61\x3f\x61", "\x20\x21\x22\x82", "\x20\x20\x20\x20"} {
		checkRefused(t, unpacker(t, 128), b, api.ErrPack)
	}
	u := unpacker(t, 128)
	checkRefused(t, u, "\x20\x3f\x21\x21", api.ErrPack)
	checkTable(t, u.Table(), 64) // the first two are taken, the third is not
}

func TestMaxListP502(t *testing.T) {
	of := func(f api.Field) string { return "\x00" + raw(f.Name) + raw(f.Value) }
	just := costing("Z", 600)
	checkUnpack(t, unpacker(t, 128), of(just), just)
	checkRefused(t, unpacker(t, 128), of(costing("Z", 601)), api.ErrSize)
	checkRefused(t, unpacker(t, 128), of(costing(strings.Repeat("Z", 569), 601)), api.ErrSize)
	checkRefused(t, unpacker(t, 128), of(costing("Z", 5000)), api.ErrSize)
	checkRefused(t, unpacker(t, 128), "\x00\x01Z"+pressed(strings.Repeat("0", 568)), api.ErrSize)
	a, b, get := costing("Z", 300), costing("Y", 258), field(":method", "GET") // which costs 42
	checkUnpack(t, unpacker(t, 128), of(a)+of(a), a, a)
	checkUnpack(t, unpacker(t, 128), of(a)+of(b)+"\x82", a, b, get)
	checkRefused(t, unpacker(t, 128), of(a)+of(b)+"\x83", api.ErrSize) // POST, which costs one more
	checkRefused(t, unpacker(t, 128), of(a)+of(costing("Z", 301)), api.ErrSize)
	checkRefused(t, unpacker(t, 128), of(a)+of(b)+"\x82\x00\x00\x00", api.ErrSize)
	// Each list counts for itself.
	u := unpacker(t, 128)
	for range 3 {
		checkUnpack(t, u, of(just), just)
	}
	// 14 times 42 is 588.
	checkUnpack(t, unpacker(t, 128), strings.Repeat("\x82", 14), slices.Repeat([]api.Field{get}, 14)...)
	checkRefused(t, unpacker(t, 128), strings.Repeat("\x82", 15), api.ErrSize)
	checkRefused(t, unpacker(t, 128), strings.Repeat("\x82", 100000), api.ErrSize)
}

func TestTheFirstErrorFromTheLeftP502(t *testing.T) {
	great := "\x00\x00" + raw(strings.Repeat("Q", 569))
	checkRefused(t, unpacker(t, 128), great+"\x80", api.ErrSize)
	checkRefused(t, unpacker(t, 128), great+"\x20", api.ErrSize)
	checkRefused(t, unpacker(t, 128), "\x80"+great, api.ErrPack)
	checkRefused(t, unpacker(t, 128), "\x82\x20"+great, api.ErrPack)
	// A field that is too long and not right: what is named first counts.
	checkRefused(t, unpacker(t, 128), great[:len(great)-1], api.ErrPack)
	checkRefused(t, unpacker(t, 128), "\x00"+raw(strings.Repeat("Q", 700)), api.ErrPack)
	checkRefused(t, unpacker(t, 128), "\x00"+raw(strings.Repeat("Q", 700))+"\x81\xff", api.ErrPack)
	checkRefused(t, unpacker(t, 128), strings.Repeat("\x82", 14)+"\xff", api.ErrPack)
}

func TestBrokenP502(t *testing.T) {
	great := "\x00\x00" + raw(strings.Repeat("Q", 569))
	for b, want := range map[string]api.Errno{
		"\x80": api.ErrPack, "\x40": api.ErrPack, "\xff": api.ErrPack, "\x82\x20": api.ErrPack, "\x20\x20\x20": api.ErrPack, "\x3f\x62": api.ErrPack,
		"\x42\x81\xff": api.ErrPack, "\x91": api.ErrPack, "\x12": api.ErrPack, great: api.ErrSize,
	} {
		u := unpacker(t, 128)
		checkRefused(t, u, b, want)
		size := u.Table().Size()
		for _, later := range []string{"", "\x82", "\x21", "\x40\x01Z\x01Q", b, great} {
			checkRefused(t, u, later, api.ErrPack)
		}
		checkTable(t, u.Table(), size) // what comes later is neither Added nor Resized
	}
	// Others are not.
	checkUnpack(t, unpacker(t, 128), "\x82", field(":method", "GET"))
}

func TestWhatWasAheadOfAnErrorStaysP502(t *testing.T) {
	z, y := field("Z", "Q"), field("Y", "K")
	u := unpacker(t, 128)
	checkRefused(t, u, "\x40\x01Z\x01Q\x82\x40\x01Y\x01K\x80", api.ErrPack)
	checkTable(t, u.Table(), 128, y, z)
	u = unpacker(t, 300, z)
	checkRefused(t, u, "\x3f\xe1\x00\x40\x01Y\x01K\x40\x01X", api.ErrPack) // of the last one there is no Value
	checkTable(t, u.Table(), 128, y, z)
	u = unpacker(t, 300, z, y)
	checkRefused(t, u, "\x3f\x03\x80", api.ErrPack)
	checkTable(t, u.Table(), 34, y)
	u = unpacker(t, 300, z, y)
	checkRefused(t, u, "\x20\x3f\x8d\x02\x40\x01Z\x01Q\x20", api.ErrPack)
	checkTable(t, u.Table(), 300, z)
	// The field by which the list would be too long is not Added.
	u = unpacker(t, 128)
	checkRefused(t, u, "\x40\x01Z\x01Q"+strings.Repeat("\x82", 13)+"\x40\x01Y\x01K", api.ErrSize)
	checkTable(t, u.Table(), 128, z)
	u = unpacker(t, 128, z)
	checkRefused(t, u, "\x40\x01Y"+raw(strings.Repeat("Q", 568)), api.ErrSize)
	checkTable(t, u.Table(), 128, z)
}

func TestUnpackIsNewP502(t *testing.T) {
	z, y := field("Z", "Q"), field("Y", "K")
	u := unpacker(t, 128, z, y)
	first, _ := u.Unpack("\x91\x92")
	second, _ := u.Unpack("\x91\x92")
	first[0], first[1] = api.Field{}, api.Field{}
	_ = append(first[:1], api.Field{})
	if !slices.Equal(second, []api.Field{y, z}) {
		t.Errorf("%q behind a change of another answer", second)
	}
	checkTable(t, u.Table(), 128, y, z)
}

func TestUnpackersAreApartP502(t *testing.T) {
	a, b := unpacker(t, 128), unpacker(t, 512)
	checkUnpack(t, b, "\x3f\xe1\x03\x40\x01Z\x01Q", field("Z", "Q"))
	checkTable(t, a.Table(), 128)
	checkRefused(t, a, "\x91", api.ErrPack)
	checkUnpack(t, b, "\x91", field("Z", "Q"))
}

func TestSumP502(t *testing.T) {
	for _, c := range []struct {
		l   []api.Field
		sum int
	}{
		{nil, 0},
		{[]api.Field{}, 0},
		{[]api.Field{{}}, 32},
		{[]api.Field{field("a", "bc"), field("", "")}, 67},
		{[]api.Field{field(":method", "GET"), field(":method", "GET")}, 84},
		{[]api.Field{field("\u00e9", "\xff")}, 35}, // bytes count, not letters
		{[]api.Field{costing("Z", 600), costing("Z", 601)}, 1201},
	} {
		if got := Sum(c.l...); got != c.sum {
			t.Errorf("Sum(%q): %d, not %d", c.l, got, c.sum)
		}
	}
}

func TestNilOnesP502(t *testing.T) {
	// A zero one is as a nil one.
	for _, p := range []*Packer{nil, {}} {
		checkPack(t, p, "")
		checkPack(t, p, "", field(":method", "GET"), field("Z", "Q"))
		for _, size := range []int{-1, 0, 5, 128, 513} {
			p.Limit(size)
			checkPack(t, p, "", field("Z", "Q"))
		}
		if p.Table() != nil {
			t.Error("Table: not nil")
		}
	}
	for _, u := range []*Unpacker{nil, {}} {
		for _, b := range []string{"", "\x82", "\x20", "\x80", "\x40\x01Z\x01Q"} {
			checkRefused(t, u, b, api.ErrPack)
		}
		if u.Table() != nil {
			t.Error("Table: not nil")
		}
	}
}

// drawn tells a list of some fields out of few names and values, so that many of them come again.
func drawn(draw *rand.Rand) []api.Field {
	names := []string{"", "Z", "Y", ":method", ":path", "date", "user-agent", "x-trace", "\x00\xff"}
	values := []string{"", "Q", "GET", "/", "200", "/index", "text/html", "\xfe", strings.Repeat("Q", 20), strings.Repeat("a", 90)}
	l := make([]api.Field, draw.Intn(9))
	for i := range l {
		l[i] = field(names[draw.Intn(len(names))], values[draw.Intn(len(values))])
	}
	return l
}

func TestUnpackOfPackP501P502(t *testing.T) {
	draw := rand.New(rand.NewSource(5))
	for range 200 {
		p, u := NewPacker(), NewUnpacker(512)
		for range 40 {
			if draw.Intn(5) == 0 {
				p.Limit(draw.Intn(700) - 50)
			}
			l := drawn(draw)
			b := p.Pack(l...)
			if Sum(l...) > 600 {
				checkRefused(t, u, b, api.ErrSize)
				break
			}
			checkUnpack(t, u, b, l...)
			checkTable(t, u.Table(), p.Table().Size(), p.Table().All()...)
			if t.Failed() {
				return
			}
		}
	}
}

// side is what one side has, as the document says it; its table is a list, the last one first.
type side struct {
	size, most int
	added      []api.Field
	broken     bool
}

func (s *side) fit(size int) {
	for sum := Sum(s.added...); sum > size; sum = Sum(s.added...) {
		s.added = s.added[:len(s.added)-1]
	}
}

func (s *side) all() []api.Field {
	x := table.New(0)
	var all []api.Field
	for i := 1; i <= 16; i++ {
		f, _ := x.At(i)
		all = append(all, f)
	}
	return append(all, s.added...)
}

// split takes a number from the left of b; false, if it is not right.
func split(b string, bits int) (int, string, bool) {
	n, took, e := varint.Get(b, bits)
	return n, b[took:], e == api.OK
}

func splitText(b string) (string, string, bool) {
	n, rest, ok := split(b, 7)
	if !ok || len(rest) < n {
		return "", "", false
	}
	s := rest[:n]
	if b[0]&128 != 0 {
		var e api.Errno
		if s, e = squeeze.Get(s); e != api.OK {
			return "", "", false
		}
	}
	return s, rest[n:], true
}

// one takes one form from the left of b, with the list and the number of sizes ahead of it.
func (s *side) one(b string, l []api.Field, sizes int) (api.Field, string, bool, bool) {
	bits, isField := 4, true
	switch lead := fmt.Sprintf("%08b", b[0]); {
	case lead[0] == '1':
		n, rest, ok := split(b, 7)
		if !ok || n == 0 || n > len(s.all()) {
			return api.Field{}, "", true, false
		}
		return s.all()[n-1], rest, true, true
	case lead[:2] == "01":
		bits = 6
	case lead[:3] == "001":
		n, rest, ok := split(b, 5)
		if !ok || len(l) > 0 || n > s.most || sizes == 2 {
			return api.Field{}, "", false, false
		}
		s.size = n
		s.fit(n)
		return api.Field{}, rest, false, true
	}
	n, rest, ok := split(b, bits)
	if !ok || n > len(s.all()) {
		return api.Field{}, "", isField, false
	}
	var f api.Field
	if n > 0 {
		f.Name = s.all()[n-1].Name
	} else if f.Name, rest, ok = splitText(rest); !ok {
		return api.Field{}, "", isField, false
	}
	f.Value, rest, ok = splitText(rest)
	if ok && bits == 6 && Sum(l...)+Sum(f) <= 600 {
		s.fit(max(0, s.size-Sum(f)))
		if Sum(f) <= s.size {
			s.added = append([]api.Field{f}, s.added...)
		}
	}
	return f, rest, isField, ok
}

func (s *side) unpacked(b string) ([]api.Field, api.Errno) {
	if s.broken {
		return nil, api.ErrPack
	}
	var l []api.Field
	for sizes := 0; b != ""; {
		f, rest, isField, ok := s.one(b, l, sizes)
		if !ok {
			s.broken = true
			return nil, api.ErrPack
		}
		if b = rest; !isField {
			sizes++
			continue
		}
		if l = append(l, f); Sum(l...) > 600 {
			s.broken = true
			return nil, api.ErrSize
		}
	}
	return l, api.OK
}

// scraps tells bytes of forms, some of them not right.
func scraps(draw *rand.Rand) string {
	text := func() string {
		s := []string{"", "Z", "QQ", "2026", "text/html", strings.Repeat("Q", 40), strings.Repeat("a", 200)}[draw.Intn(7)]
		if draw.Intn(2) == 0 {
			return raw(s)
		}
		return pressed(s)
	}
	b := ""
	for range draw.Intn(3) {
		b += num(32, 5, draw.Intn(300))
	}
	for range draw.Intn(6) {
		place := draw.Intn(20)
		first, bits := []byte{64, 64, 0, 16}[draw.Intn(4)], 4
		if first == 64 {
			bits = 6
		}
		switch draw.Intn(12) {
		case 0, 1, 2, 3:
			b += num(128, 7, 1+draw.Intn(19))
		case 4, 5, 6, 7:
			b += num(first, bits, 0) + text() + text()
		case 8, 9, 10:
			b += num(first, bits, place) + text()
		}
	}
	if b != "" && draw.Intn(15) == 0 {
		wrong := []byte(b)
		wrong[draw.Intn(len(b))] = byte(draw.Intn(256))
		b = string(wrong[:1+draw.Intn(len(b))])
	}
	return b
}

func TestUnpackOfAnythingP502(t *testing.T) {
	draw := rand.New(rand.NewSource(502))
	many := map[api.Errno]int{}
	for range 4000 {
		most := 128 + draw.Intn(385)
		u, s := NewUnpacker(most), &side{size: 128, most: most}
		for range 20 {
			b := scraps(draw)
			want, e := s.unpacked(b)
			got, is := u.Unpack(b)
			if is != e || !slices.Equal(got, want) {
				t.Fatalf("Unpack(%q): %q %d, not %q %d", b, got, is, want, e)
			}
			checkTable(t, u.Table(), s.size, s.added...)
			many[e]++
			if t.Failed() || s.broken && draw.Intn(3) > 0 {
				break
			}
		}
	}
	if many[api.OK] < 1000 || many[api.ErrPack] < 500 || many[api.ErrSize] < 100 {
		t.Errorf("how many of each answer: %v", many)
	}
}

func TestUnpackOfAllShortBytesP502(t *testing.T) {
	for a := range 256 {
		for _, tail := range []string{"", "\x00", "\x01", "\x00\x00", "\x01Z", "\x01Z\x00", "\x01Z\x01Q", "\x81\x07", "\x81\x07\x81\x7f", "\x81\xff\x00", "\x80\x80", "\x7f\x7f", "\xff\xff\xff\xff\xff\xff", "\x82", "\x82\x82"} {
			b := string([]byte{byte(a)}) + tail
			u, s := NewUnpacker(300), &side{size: 128, most: 300}
			want, e := s.unpacked(b)
			if got, is := u.Unpack(b); is != e || !slices.Equal(got, want) {
				t.Errorf("Unpack(%q): %q %d, not %q %d", b, got, is, want, e)
			}
			checkTable(t, u.Table(), s.size, s.added...)
		}
	}
}
