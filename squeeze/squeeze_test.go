package squeeze

import (
	"fmt"
	"math/rand"
	"strings"
	"testing"

	"bywash/api"
)

// codes tells all bytes' codes as the document says it, each as a text of 0s and 1s.
func codes() [256]string {
	var all [256]string
	next := map[int]int{5: 0, 7: 64, 10: 768}
	for c := range all {
		bits := 10
		if strings.IndexByte("0123456789aeiost", byte(c)) >= 0 {
			bits = 5
		} else if strings.IndexByte(" !%&()*+,-./:;=?@_bcdfghlmnpruvw", byte(c)) >= 0 {
			bits = 7
		}
		all[c] = fmt.Sprintf("%0*b", bits, next[bits])
		next[bits]++
	}
	return all
}

// packed tells what Put must answer.
func packed(s string) string {
	all, bits := codes(), ""
	for _, c := range []byte(s) {
		bits += all[c]
	}
	for len(bits)%8 != 0 {
		bits += "1"
	}
	return bytesOf(bits)
}

// bytesOf tells the bytes of a text of 0s and 1s.
func bytesOf(bits string) string {
	told := make([]byte, len(bits)/8)
	for i := range told {
		fmt.Sscanf(bits[8*i:8*i+8], "%b", &told[i])
	}
	return string(told)
}

// unpacked tells what Get must answer: codes from the left, as long as one is there.
func unpacked(b string, all [256]string) (string, api.Errno) {
	bits := ""
	for _, c := range []byte(b) {
		bits += fmt.Sprintf("%08b", c)
	}
	var told []byte
	for {
		at := -1
		for c, code := range all {
			if strings.HasPrefix(bits, code) {
				at = c
			}
		}
		if at < 0 {
			break
		}
		told = append(told, byte(at))
		bits = bits[len(all[at]):]
	}
	if len(bits) >= 8 || strings.Contains(bits, "0") {
		return "", api.ErrForm
	}
	return string(told), api.OK
}

func checkPut(t *testing.T, s, want string) {
	t.Helper()
	if got := Put(s); got != want {
		t.Errorf("Put(%q): %q, not %q", s, got, want)
	}
	if got := Len(s); got != len(want) {
		t.Errorf("Len(%q): %d, not %d", s, got, len(want))
	}
}

func checkGet(t *testing.T, b, want string, e api.Errno) {
	t.Helper()
	got, is := Get(b)
	if got != want || is != e {
		t.Errorf("Get(%q): %q %d, not %q %d", b, got, is, want, e)
	}
}

// Texts and their bytes, worked out by hand.
func pairs() [][2]string {
	return [][2]string{
		{"", ""},
		{"2026", "\x10\x04\x6f"}, // the document's own
		// The first and the last code of each length.
		{"0", "\x07"},
		{"t", "\x7f"},
		{" ", "\x81"},
		{"w", "\xbf"},
		{"\x00", "\xc0\x3f"},
		{"\xff", "\xf3\xff"},
		// Those that end at a whole byte, and nothing behind them.
		{"00000000", "\x00\x00\x00\x00\x00"},
		{"tttttttt", "\x7b\xde\xf7\xbd\xef"},
		{"        ", "\x81\x02\x04\x08\x10\x20\x40"},
		{"\x00\x00\x00\x00", "\xc0\x30\x0c\x03\x00"},
		{"\xff\xff\xff\xff", "\xf3\xfc\xff\x3f\xcf"},
		{"\x00  ", "\xc0\x20\x40"},
		// Each number of 1s behind them.
		{"0000000 ", "\x00\x00\x00\x00\x10\x3f"},
		{"00000", "\x00\x00\x00\x7f"},
		{"00", "\x00\x3f"},
		{"0000000", "\x00\x00\x00\x00\x1f"},
		{"0000", "\x00\x00\x0f"},
		{"000000", "\x00\x00\x00\x03"},
		{"000", "\x00\x01"},
		// All lengths in one.
		{"\x000 1", "\xc0\x01\x00\x3f"},
		{"1 0\x00", "\x0c\x00\x60\x1f"},
	}
}

func TestPutP301(t *testing.T) {
	for _, p := range pairs() {
		checkPut(t, p[0], p[1])
	}
}

func TestGetP301(t *testing.T) {
	for _, p := range pairs() {
		checkGet(t, p[1], p[0], api.OK)
	}
}

func TestBitsP301(t *testing.T) {
	many := map[int]int{}
	for c, code := range codes() {
		if got := Bits(byte(c)); got != len(code) {
			t.Errorf("Bits(%q): %d, not %d", byte(c), got, len(code))
		}
		many[Bits(byte(c))]++
	}
	if many[5] != 16 || many[7] != 32 || many[10] != 208 || len(many) != 3 {
		t.Errorf("how many of each length: %v", many)
	}
	for _, c := range []struct {
		all  string
		bits int
	}{
		{"059aeiost", 5},
		{" !%@_bw/:;", 7},
		{"\x00\x1f\"#$'<>AZ[\\]^`jkqxyz{|}~\x7f\x80\xff", 10},
	} {
		for i := range len(c.all) {
			if got := Bits(c.all[i]); got != c.bits {
				t.Errorf("Bits(%q): %d, not %d", c.all[i], got, c.bits)
			}
		}
	}
}

func TestEachByteP301(t *testing.T) {
	for c := range 256 {
		s := string([]byte{byte(c)})
		for ahead := range 8 {
			text := strings.Repeat("a", ahead) + s + s + "z."
			checkPut(t, text, packed(text))
			checkGet(t, packed(text), text, api.OK)
		}
		checkPut(t, s, packed(s))
		checkGet(t, packed(s), s, api.OK)
	}
}

func TestEachCodeOfTenBitsP301(t *testing.T) {
	all := codes()
	for code := 768; code < 1024; code++ {
		for _, ahead := range []string{"", "a", "aa", "b", "bb", "~", "a longer text, ahead of it"} {
			bits := ""
			for _, c := range []byte(ahead) {
				bits += all[c]
			}
			bits += fmt.Sprintf("%010b", code)
			for len(bits)%8 != 0 {
				bits += "1"
			}
			b := bytesOf(bits)
			want, e := unpacked(b, all)
			if code <= 975 != (e == api.OK) {
				t.Fatalf("the code %d: %d", code, e)
			}
			checkGet(t, b, want, e)
		}
	}
}

func TestGetRefusesP301(t *testing.T) {
	for _, b := range []string{
		// Ten bits that begin no code: 976, 977, 1022, 1023; and behind codes, and ahead of some.
		"\xf4\x3f", "\xf4\x7f", "\xff\xbf", "\xff\xff", "\x07\xa0\x7f", "\xf4\x00\x00\x00", "\xff\xff\xff\xff",
		// Eight or nine bits behind the last code, all 1; and no code at all.
		"\xff", "\x00\x00\x00\x00\x00\xff", "\xc0\x30\x0c\x03\x00\xff", "\x00\x00\x00\x00\x0f\xff\xff", "\x81\xff", "\x00\x00\x00\x7f\xff",
		// Fewer of them, not all 1.
		"\x00", "\x06", "\x05", "\x03", "\x80", "\xbe", "\xc0", "\xc0\x00", "\xc0\x3e", "\xc0\x3d", "\xc0\x37", "\xc0\x2f", "\xf3\xfe", "\xf3\xef", "\x00\x00", "\x00\x3e", "\x00\x3b", "\x00\x00\x00\x7e", "\x00\x00\x00\x7d", "\x00\x00\x00\x6f", "\x10\x04\x6e",
		// A code that is cut off.
		"\xfc", "\xfe", "\x10\x04", "\x81\x02\x04\x08", "\xc0\x30\x0c\x02",
	} {
		checkGet(t, b, "", api.ErrForm)
	}
}

func TestGetOfAllBytesP301(t *testing.T) {
	all := codes()
	for a := range 256 {
		one := string([]byte{byte(a)})
		want, e := unpacked(one, all)
		checkGet(t, one, want, e)
		for _, b := range []byte{0x00, 0x01, 0x1f, 0x20, 0x3f, 0x40, 0x7e, 0x7f, 0x80, 0xaa, 0xbf, 0xc0, 0xdf, 0xf3, 0xf4, 0xfc, 0xfe, 0xff} {
			two := one + string([]byte{b})
			want, e := unpacked(two, all)
			checkGet(t, two, want, e)
		}
	}
}

func TestGetOfPutP301(t *testing.T) {
	draw := rand.New(rand.NewSource(3))
	for range 2000 {
		text := make([]byte, draw.Intn(40))
		for i := range text {
			text[i] = byte(draw.Intn(256))
			if draw.Intn(3) > 0 {
				text[i] = "0123456789aeiost bcdfghlmnpruvw%"[draw.Intn(32)]
			}
		}
		s := string(text)
		b := packed(s)
		checkPut(t, s, b)
		checkGet(t, b, s, api.OK)
		checkGet(t, b+"\xff", "", api.ErrForm)
	}
}

func TestGetOfAnythingP301(t *testing.T) {
	all := codes()
	draw := rand.New(rand.NewSource(301))
	for range 5000 {
		b := make([]byte, draw.Intn(9))
		for i := range b {
			b[i] = byte(draw.Intn(256))
		}
		if len(b) > 0 {
			b[len(b)-1] |= byte(1<<draw.Intn(9) - 1)
		}
		want, e := unpacked(string(b), all)
		checkGet(t, string(b), want, e)
		if got, is := Get(string(b)); is == api.OK && Put(got) != string(b) {
			t.Errorf("Put of Get(%q): %q", b, Put(got))
		}
	}
}

func TestLongTextP301(t *testing.T) {
	s := strings.Repeat("x-forwarded-for: 10.0.0.1; \"\x00\xff\"", 40000)
	b := Put(s)
	if Len(s) != len(b) {
		t.Errorf("Len: %d, not %d", Len(s), len(b))
	}
	if got, e := Get(b); got != s || e != api.OK {
		t.Errorf("Get: %d bytes, %d", len(got), e)
	}
}
