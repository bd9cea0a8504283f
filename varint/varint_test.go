package varint

import (
	"math"
	"math/big"
	"strings"
	"testing"

	"bywash/api"
)

// edges are the numbers around which a number's bytes get another form.
func edges(bits int) []int {
	m := 1<<bits - 1
	near := []int{0, m, math.MaxInt32}
	for shift := 7; shift <= 28; shift += 7 {
		near = append(near, m+1<<shift, 1<<shift)
	}
	var all []int
	for _, n := range near {
		for _, k := range []int{n - 1, n, n + 1} {
			if 0 <= k && k <= math.MaxInt32 {
				all = append(all, k)
			}
		}
	}
	return all
}

// bytesOf tells a number's bytes as the document says it, in big numbers.
func bytesOf(first byte, bits, n int) string {
	m := big.NewInt(1<<bits - 1)
	r := big.NewInt(int64(n))
	if r.Cmp(m) < 0 {
		return string([]byte{first + byte(n)})
	}
	told := []byte{first + byte(m.Int64())}
	r.Sub(r, m)
	wide := big.NewInt(128)
	for r.Cmp(wide) >= 0 {
		low := new(big.Int)
		r.DivMod(r, wide, low)
		told = append(told, byte(128+low.Int64()))
	}
	return string(append(told, byte(r.Int64())))
}

// numberOf tells what Get must answer, as the document says it, in big numbers.
func numberOf(b string, bits int) (int, int, api.Errno) {
	if bits < 1 || bits > 8 {
		return 0, 0, api.ErrArg
	}
	if len(b) == 0 {
		return 0, 0, api.ErrMore
	}
	m := 1<<bits - 1
	n := big.NewInt(int64(int(b[0]) % (m + 1)))
	if n.Int64() < int64(m) {
		return int(n.Int64()), 1, api.OK
	}
	weight := big.NewInt(1)
	for i, c := range []byte(b[1:]) {
		part := big.NewInt(int64(c % 128))
		n.Add(n, part.Mul(part, weight))
		weight.Mul(weight, big.NewInt(128))
		switch {
		case i == 4 && c >= 128, n.Cmp(big.NewInt(math.MaxInt32)) > 0:
			return 0, 0, api.ErrRange
		case c < 128:
			return int(n.Int64()), i + 2, api.OK
		}
	}
	return 0, 0, api.ErrMore
}

func checkPut(t *testing.T, first byte, bits, n int, want string, ok bool) {
	t.Helper()
	got, is := Put(first, bits, n)
	if got != want || is != ok {
		t.Errorf("Put(%#x, %d, %d): %q %v, not %q %v", first, bits, n, got, is, want, ok)
	}
}

func checkGet(t *testing.T, b string, bits, n, long int, want api.Errno) {
	t.Helper()
	gotN, gotLong, got := Get(b, bits)
	if gotN != n || gotLong != long || got != want {
		t.Errorf("Get(%q, %d): %d %d %d, not %d %d %d", b, bits, gotN, gotLong, got, n, long, want)
	}
}

func TestPutP201(t *testing.T) {
	for _, c := range []struct {
		first   byte
		bits, n int
		want    string
	}{
		{0, 5, 1337, "\x1f\x9a\x0a"}, // the document's own
		{0, 5, 10, "\x0a"},
		{0, 8, 42, "\x2a"},
		{0, 1, 0, "\x00"},
		{0, 1, 1, "\x01\x00"},
		{0xfe, 1, 0, "\xfe"},
		{0xfe, 1, 2, "\xff\x01"},
		{0, 8, 254, "\xfe"},
		{0, 8, 255, "\xff\x00"},
		{0, 8, 256, "\xff\x01"},
		{0x80, 7, 126, "\xfe"},
		{0x80, 7, 127, "\xff\x00"},
		{0x20, 5, 31 + 127, "\x3f\x7f"},
		{0x20, 5, 31 + 128, "\x3f\x80\x01"},
		{0x20, 5, 31 + 1<<14 - 1, "\x3f\xff\x7f"},
		{0x20, 5, 31 + 1<<14, "\x3f\x80\x80\x01"},
		{0, 1, math.MaxInt32, "\x01\xfe\xff\xff\xff\x07"},
		{0, 8, math.MaxInt32, "\xff\x80\xfe\xff\xff\x07"},
	} {
		checkPut(t, c.first, c.bits, c.n, c.want, true)
	}
}

func TestPutOfAllEdgesP201(t *testing.T) {
	for bits := 1; bits <= 8; bits++ {
		for first := 0; first < 256; first += 1 << bits {
			for _, n := range edges(bits) {
				checkPut(t, byte(first), bits, n, bytesOf(byte(first), bits, n), true)
			}
		}
	}
}

func TestPutRefusesP201(t *testing.T) {
	for _, bits := range []int{math.MinInt, -1, 0, 9, 31, 64, math.MaxInt} {
		checkPut(t, 0, bits, 1, "", false)
		checkPut(t, 0, bits, 0, "", false)
	}
	for bits := 1; bits <= 8; bits++ {
		for _, n := range []int{math.MinInt, -1 << 31, -128, -1} {
			checkPut(t, 0, bits, n, "", false)
		}
		if math.MaxInt > math.MaxInt32 {
			beyond := math.MaxInt32
			checkPut(t, 0, bits, beyond+1, "", false)
			checkPut(t, 0, bits, math.MaxInt, "", false)
		}
		for first := 0; first < 256; first++ {
			if first%(1<<bits) != 0 {
				checkPut(t, byte(first), bits, 0, "", false)
				checkPut(t, byte(first), bits, 300, "", false)
			}
		}
	}
}

func TestGetP201(t *testing.T) {
	for _, c := range []struct {
		b             string
		bits, n, long int
	}{
		{"\x1f\x9a\x0a", 5, 1337, 3},
		{"\x0a", 5, 10, 1},
		{"\x2a", 8, 42, 1},
		{"\x00", 1, 0, 1},
		{"\x01\x00", 1, 1, 2},
		{"\x01\x05", 1, 6, 2},
		{"\xfe", 8, 254, 1},
		{"\xff\x00", 8, 255, 2},
		{"\x01\xfe\xff\xff\xff\x07", 1, math.MaxInt32, 6},
		{"\xff\x80\xfe\xff\xff\x07", 8, math.MaxInt32, 6},
		// What is behind it, and above the prefix, does not matter.
		{"\xff\x9a\x0a\xff\xff\xff\xff\xff", 5, 1337, 3},
		{"\xea\xff", 5, 10, 1},
		{"\xfe\xff", 1, 0, 1},
		{"\xff\x80\xfe\xff\xff\x07\xff", 8, math.MaxInt32, 6},
		// More bytes than it needs.
		{"\x1f\x80\x00", 5, 31, 3},
		{"\x1f\x81\x80\x00", 5, 32, 4},
		{"\x1f\x80\x80\x80\x00", 5, 31, 5},
		{"\x1f\x80\x80\x80\x80\x00", 5, 31, 6},
	} {
		checkGet(t, c.b, c.bits, c.n, c.long, api.OK)
	}
}

func TestGetRefusesBitsP201(t *testing.T) {
	for _, bits := range []int{math.MinInt, -1, 0, 9, 31, 64, math.MaxInt} {
		for _, b := range []string{"", "x", "\xff", "\xff\xff\xff\xff\xff\xff"} {
			checkGet(t, b, bits, 0, 0, api.ErrArg)
		}
	}
}

func TestGetEndsEarlyP201(t *testing.T) {
	for bits := 1; bits <= 8; bits++ {
		checkGet(t, "", bits, 0, 0, api.ErrMore)
		for behind := 0; behind <= 4; behind++ {
			checkGet(t, "\xff"+strings.Repeat("\x80", behind), bits, 0, 0, api.ErrMore)
			checkGet(t, "\xff"+strings.Repeat("\xff", behind), bits, 0, 0, api.ErrMore)
		}
	}
}

func TestGetIsTooGreatP201(t *testing.T) {
	for bits := 1; bits <= 8; bits++ {
		for _, b := range []string{
			"\xff\x80\x80\x80\x80\x80", // the fifth goes on, whatever is behind it
			"\xff\x80\x80\x80\x80\x80\x00",
			"\xff\x80\x80\x80\x80\x80\x80\x80\x00",
			"\xff\x80\x80\x80\x80\x08", // 2 to the 31st, and the prefix
			"\xff\xff\xff\xff\xff\x07", // 2 to the 31st less 1, and the prefix
			"\xff\x80\x80\x80\x80\x10", // what 32 bits lose
			"\xff\x80\x80\x80\x80\x7f",
			"\xff\xff\xff\xff\xff\x7f",
			"\xff\xff\xff\xff\xff\xff",
		} {
			checkGet(t, b, bits, 0, 0, api.ErrRange)
		}
	}
	checkGet(t, "\xff\x81\xfe\xff\xff\x07", 8, 0, 0, api.ErrRange)
	checkGet(t, "\x01\xff\xff\xff\xff\x07", 1, 0, 0, api.ErrRange)
}

func TestGetOfPutP201(t *testing.T) {
	for bits := 1; bits <= 8; bits++ {
		for _, n := range edges(bits) {
			b, _ := Put(0, bits, n)
			checkGet(t, b, bits, n, len(b), api.OK)
			checkGet(t, b+"\xff", bits, n, len(b), api.OK)
			checkGet(t, b[:len(b)-1], bits, 0, 0, api.ErrMore)
		}
	}
}

func TestGetOfAllFormsP201(t *testing.T) {
	steps := []byte{0x00, 0x01, 0x07, 0x08, 0x7f, 0x80, 0xfe, 0xff}
	var try func(b []byte)
	try = func(b []byte) {
		for bits := 0; bits <= 9; bits++ {
			n, long, e := numberOf(string(b), bits)
			checkGet(t, string(b), bits, n, long, e)
		}
		if len(b) == 7 || t.Failed() || len(b) > 1 && b[len(b)-1] < 128 {
			return
		}
		for _, c := range steps {
			try(append(b[:len(b):len(b)], c))
		}
	}
	for _, first := range []byte{0x00, 0x0f, 0x1e, 0x7f, 0xfe, 0xff} {
		try([]byte{first})
	}
}
