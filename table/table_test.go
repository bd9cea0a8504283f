package table

import (
	"math"
	"math/rand"
	"slices"
	"strings"
	"testing"

	"bywash/api"
)

func field(name, value string) api.Field { return api.Field{Name: name, Value: value} }

// costing tells a field of that name, a letter, that costs so much.
func costing(name string, cost int) api.Field {
	return field(name, strings.Repeat("v", cost-len(name)-api.EntryMore))
}

// sixteen tells the fields that are always there, as the document lists them.
func sixteen() []api.Field {
	return []api.Field{
		field(":authority", ""), field(":method", "GET"), field(":method", "POST"), field(":path", "/"),
		field(":scheme", "http"), field(":scheme", "https"), field(":status", "200"), field(":status", "204"),
		field(":status", "404"), field(":status", "500"), field("accept", ""), field("content-length", ""),
		field("content-type", ""), field("cookie", ""), field("date", ""), field("user-agent", ""),
	}
}

// made tells a table of that size with those added, from the left.
func made(t *testing.T, size int, added ...api.Field) *Table {
	t.Helper()
	x := New(size)
	if x == nil {
		t.Fatalf("New(%d): nil", size)
	}
	for _, f := range added {
		x.Add(f)
	}
	return x
}

// checkAt holds what is at a place against a field.
func checkAt(t *testing.T, x *Table, i int, want api.Field) {
	t.Helper()
	if got, is := x.At(i); got != want || !is {
		t.Errorf("At(%d): %q %v, not %q true", i, got, is, want)
	}
}

func checkNone(t *testing.T, x *Table, i int) {
	t.Helper()
	if got, is := x.At(i); got != (api.Field{}) || is {
		t.Errorf("At(%d): %q %v, not none", i, got, is)
	}
}

func checkFind(t *testing.T, x *Table, f api.Field, want int, just bool) {
	t.Helper()
	if got, is := x.Find(f); got != want || is != just {
		t.Errorf("Find(%q): %d %v, not %d %v", f, got, is, want, just)
	}
}

// checkTable holds all that a table tells against its size and those added, the last one first.
func checkTable(t *testing.T, x *Table, size int, want ...api.Field) {
	t.Helper()
	if got := x.Size(); got != size {
		t.Errorf("Size: %d, not %d", got, size)
	}
	if got := x.All(); !slices.Equal(got, want) {
		t.Errorf("All: %q, not %q", got, want)
	}
	used := 0
	for _, f := range want {
		used += len(f.Name) + len(f.Value) + 32
	}
	if got := x.Used(); got != used {
		t.Errorf("Used: %d, not %d", got, used)
	}
	all := append(sixteen(), want...)
	for i, f := range all {
		checkAt(t, x, i+1, f)
		checkFind(t, x, f, slices.Index(all, f)+1, true)
	}
	for _, i := range []int{math.MinInt, -17, -1, 0, len(all) + 1, len(all) + 2, len(all) + 17, math.MaxInt} {
		checkNone(t, x, i)
	}
}

func TestAlwaysP401(t *testing.T) {
	if len(sixteen()) != 16 {
		t.Fatalf("%d fields", len(sixteen()))
	}
	for _, x := range []*Table{made(t, 0), made(t, 512), made(t, 128, field("a", "b"), field("date", "c"))} {
		for i, f := range sixteen() {
			checkAt(t, x, i+1, f)
		}
	}
}

func TestAlwaysStayP401(t *testing.T) {
	x := made(t, 128)
	x.Add(field(":method", "PUT"))
	x.Add(field("date", "today"))
	x.Add(costing("z", 129))
	x.Resize(0)
	checkTable(t, x, 0)
}

func TestCostP401(t *testing.T) {
	for _, c := range []struct {
		f    api.Field
		cost int
	}{
		{field("", ""), 32},
		{field("a", ""), 33},
		{field("", "a"), 33},
		{field("ab", "cde"), 37},
		{field(":method", "GET"), 42},
		{field("\x00\xff", "\u00e9"), 36}, // bytes count, not letters
		{field(strings.Repeat("n", 1000), strings.Repeat("v", 3000)), 4032},
	} {
		if got := Cost(c.f); got != c.cost {
			t.Errorf("Cost(%q): %d, not %d", c.f, got, c.cost)
		}
	}
}

func TestNewP401(t *testing.T) {
	for _, size := range []int{math.MinInt, -128, -1, 513, 1024, math.MaxInt} {
		if New(size) != nil {
			t.Errorf("New(%d): not nil", size)
		}
	}
	for _, size := range []int{0, 1, 31, 32, 33, 128, 511, 512} {
		checkTable(t, made(t, size), size)
	}
}

func TestAddP401(t *testing.T) {
	a, b, c := field("a", "1"), field("b", "22"), field("", "")
	x := made(t, 128)
	x.Add(a)
	checkTable(t, x, 128, a)
	x.Add(b)
	checkTable(t, x, 128, b, a)
	x.Add(c)
	checkTable(t, x, 128, c, b, a)
	checkAt(t, x, 17, c)
	checkAt(t, x, 18, b)
	checkAt(t, x, 19, a)
	checkNone(t, x, 20)
}

func TestAddOfWhatIsThereP401(t *testing.T) {
	a, get := field("a", "1"), field(":method", "GET")
	checkTable(t, made(t, 512, a, get, a, a), 512, a, a, get, a)
}

func TestAddDrivesOutP401(t *testing.T) {
	a, b, c := costing("a", 40), costing("b", 40), costing("c", 40)
	for _, d := range []struct {
		cost int
		left []api.Field // behind the new one
	}{
		{40, []api.Field{c, b, a}},
		{41, []api.Field{c, b}},
		{80, []api.Field{c, b}},
		{81, []api.Field{c}},
		{120, []api.Field{c}},
		{121, nil},
		{160, nil},
	} {
		f := costing("d", d.cost)
		checkTable(t, made(t, 160, a, b, c, f), 160, append([]api.Field{f}, d.left...)...)
	}
}

func TestAddDrivesOutNoMoreThanMustP401(t *testing.T) {
	// The eldest goes first, even where a later one alone would give the room.
	small, great := costing("s", 33), costing("g", 90)
	f := costing("f", 38)
	checkTable(t, made(t, 128, small, great, f), 128, f, great)
	checkTable(t, made(t, 128, great, small, f), 128, f, small)
	// A smaller one that is elder than one that goes does not stay.
	f = costing("f", 70)
	checkTable(t, made(t, 160, small, great, f), 160, f, great)
	checkTable(t, made(t, 159, small, great, f), 159, f)
}

func TestAddAboveTheSizeP401(t *testing.T) {
	a, b := field("a", "1"), field("b", "2")
	checkTable(t, made(t, 128, a, b, costing("c", 128)), 128, costing("c", 128))
	for _, cost := range []int{129, 130, 256, 5000} {
		x := made(t, 128, a, b, costing("c", cost))
		checkTable(t, x, 128)
		x.Add(b)
		checkTable(t, x, 128, b)
	}
	for _, size := range []int{0, 1, 31} {
		checkTable(t, made(t, size, field("", "")), size)
	}
	checkTable(t, made(t, 32, field("", "")), 32, field("", ""))
	checkTable(t, made(t, 32, field("", ""), field("a", "")), 32)
	checkTable(t, made(t, 32, field("", ""), field("", "")), 32, field("", ""))
}

func TestAddOfTheEldestP401(t *testing.T) {
	a, b := costing("a", 50), costing("b", 50)
	x := made(t, 100, a, b)
	eldest, _ := x.At(18)
	x.Add(eldest)
	checkTable(t, x, 100, a, b)
}

func TestAddFillsP401(t *testing.T) {
	x := made(t, 512)
	var want []api.Field
	for range 17 {
		x.Add(api.Field{})
		if len(want) < 16 {
			want = append(want, api.Field{})
		}
		checkTable(t, x, 512, want...)
	}
}

func TestResizeP401(t *testing.T) {
	a, b, c := costing("a", 40), costing("b", 50), costing("c", 60)
	for _, d := range []struct {
		size int
		left []api.Field
	}{
		{512, []api.Field{c, b, a}},
		{150, []api.Field{c, b, a}},
		{149, []api.Field{c, b}},
		{110, []api.Field{c, b}},
		{109, []api.Field{c}},
		{100, []api.Field{c}}, // b is gone, and so is a, though it has room
		{60, []api.Field{c}},
		{59, nil},
		{40, nil},
		{1, nil},
		{0, nil},
	} {
		x := made(t, 200, a, b, c)
		if !x.Resize(d.size) {
			t.Errorf("Resize(%d): false", d.size)
		}
		checkTable(t, x, d.size, d.left...)
	}
}

func TestResizeRefusesP401(t *testing.T) {
	a, b := field("a", "1"), field("b", "2")
	for _, size := range []int{math.MinInt, -128, -1, 513, 1024, math.MaxInt} {
		x := made(t, 128, a, b)
		if x.Resize(size) {
			t.Errorf("Resize(%d): true", size)
		}
		checkTable(t, x, 128, b, a)
	}
}

func TestResizeThenAddP401(t *testing.T) {
	a, b, c := costing("a", 40), costing("b", 40), costing("c", 40)
	x := made(t, 0, a)
	if !x.Resize(80) {
		t.Error("Resize(80) of one of size 0: false")
	}
	for _, f := range []api.Field{a, b, c} {
		x.Add(f)
	}
	checkTable(t, x, 80, c, b)
	x.Resize(120)
	x.Add(a)
	checkTable(t, x, 120, a, c, b)
	x.Resize(79)
	x.Resize(120)
	checkTable(t, x, 120, a) // what went does not come back
	x.Resize(0)
	x.Add(a)
	checkTable(t, x, 0)
}

func TestAtP402(t *testing.T) {
	x := made(t, 128)
	checkAt(t, x, 1, field(":authority", ""))
	checkAt(t, x, 16, field("user-agent", ""))
	for _, i := range []int{0, -1, 17, 18, math.MinInt, math.MaxInt} {
		checkNone(t, x, i)
	}
	x.Add(field("a", "1"))
	x.Add(field("", ""))
	checkAt(t, x, 16, field("user-agent", ""))
	checkAt(t, x, 17, field("", ""))
	checkAt(t, x, 18, field("a", "1"))
	for _, i := range []int{0, -1, 19, 20, math.MinInt, math.MaxInt} {
		checkNone(t, x, i)
	}
}

func TestFindP402(t *testing.T) {
	x := made(t, 512)
	checkFind(t, x, field(":method", "GET"), 2, true) // the document's own
	for i, f := range sixteen() {
		checkFind(t, x, f, i+1, true)
	}
	for name, i := range map[string]int{":authority": 1, ":method": 2, ":path": 4, ":scheme": 5, ":status": 7, "accept": 11, "user-agent": 16} {
		checkFind(t, x, field(name, "another"), i, false)
	}
	for _, f := range []api.Field{field("", ""), field("x", ""), field("Cookie", ""), field("cookie ", ""), field("GET", ":method"), field("", ":method"), field(":metho", "dGET")} {
		checkFind(t, x, f, 0, false)
	}
}

func TestFindOfAddedP402(t *testing.T) {
	x := made(t, 512, field("a", "1"), field("b", "2"), field("a", "3"), field("cookie", "c"), field("", ""))
	for _, c := range []struct {
		f    api.Field
		i    int
		just bool
	}{
		{field("", ""), 17, true},
		{field("cookie", "c"), 18, true}, // just that one, though its Name is also at 14
		{field("cookie", "d"), 14, false},
		{field("cookie", ""), 14, true},
		{field("a", "3"), 19, true},
		{field("b", "2"), 20, true},
		{field("a", "1"), 21, true},
		{field("a", "2"), 19, false}, // a Name that is there twice
		{field("b", ""), 20, false},
		{field("", "1"), 17, false},
		{field("c", "1"), 0, false},
	} {
		checkFind(t, x, c.f, c.i, c.just)
	}
}

func TestFindOfOneThereTwiceP402(t *testing.T) {
	a, b, get := field("a", "1"), field("b", "2"), field(":method", "GET")
	x := made(t, 512, a, b, a, b, get)
	checkFind(t, x, a, 19, true)
	checkFind(t, x, b, 18, true)
	checkFind(t, x, get, 2, true)
}

func TestFindOfGoneP402(t *testing.T) {
	x := made(t, 70, field("a", "1"), field("a", "2"), field("b", "1"))
	checkFind(t, x, field("a", "1"), 18, false)
	x.Resize(34)
	checkFind(t, x, field("a", "2"), 0, false)
	checkFind(t, x, field("b", "1"), 17, true)
}

func TestAllIsNewP402(t *testing.T) {
	a, b, c := field("a", "1"), field("b", "2"), field("c", "3")
	x := made(t, 128, a, b)
	first, second := x.All(), x.All()
	first[0] = c
	_ = append(first[:1], c)
	if !slices.Equal(second, []api.Field{b, a}) {
		t.Errorf("All: %q behind a change of another answer", second)
	}
	checkTable(t, x, 128, b, a)
	third := x.All()
	x.Add(c)
	x.Resize(34)
	if !slices.Equal(third, []api.Field{b, a}) {
		t.Errorf("All: %q behind Add and Resize", third)
	}
	checkTable(t, x, 34, c)
}

func TestTellingChangesNothingP402(t *testing.T) {
	a, b := field("a", "1"), field("b", "2")
	x := made(t, 128, a, b)
	for range 3 {
		checkTable(t, x, 128, b, a)
	}
}

func TestTablesAreApartP402(t *testing.T) {
	a, b := field("a", "1"), field("b", "2")
	x, y := made(t, 128, a), made(t, 64, b)
	x.Add(b)
	y.Resize(0)
	checkTable(t, x, 128, b, a)
	checkTable(t, y, 0)
}

// checkDeaf holds a table that takes nothing against what the document says of a nil one.
func checkDeaf(t *testing.T, x *Table) {
	t.Helper()
	checkTable(t, x, 0)
	x.Add(field("", ""))
	x.Add(field("a", "1"))
	for _, size := range []int{-1, 0, 1, 128, 512, 513} {
		if x.Resize(size) {
			t.Errorf("Resize(%d): true", size)
		}
		x.Add(field("", ""))
		checkTable(t, x, 0)
	}
	checkFind(t, x, field(":status", "999"), 7, false)
	checkFind(t, x, field("a", "1"), 0, false)
}

func TestNilP402(t *testing.T) {
	checkDeaf(t, nil)
	checkDeaf(t, New(-1))
	checkDeaf(t, New(513))
}

func TestZeroIsAsNilP402(t *testing.T) {
	checkDeaf(t, &Table{})
	checkDeaf(t, new(Table))
}

// model is a table as the document says it, the eldest one first.
type model struct {
	size  int
	added []api.Field
}

func (m *model) used() int {
	n := 0
	for _, f := range m.added {
		n += len(f.Name) + len(f.Value) + 32
	}
	return n
}

func (m *model) add(f api.Field) {
	cost := len(f.Name) + len(f.Value) + 32
	for len(m.added) > 0 && m.used()+cost > m.size {
		m.added = m.added[1:]
	}
	if cost <= m.size {
		m.added = append(m.added, f)
	}
}

func (m *model) resize(size int) bool {
	if size < 0 || size > 512 {
		return false
	}
	m.size = size
	for m.used() > size {
		m.added = m.added[1:]
	}
	return true
}

// lastFirst tells those that were added as All must.
func (m *model) lastFirst() []api.Field {
	told := slices.Clone(m.added)
	slices.Reverse(told)
	return told
}

// find tells what Find must answer.
func (m *model) find(f api.Field) (int, bool) {
	all := append(sixteen(), m.lastFirst()...)
	if i := slices.Index(all, f); i >= 0 {
		return i + 1, true
	}
	return slices.IndexFunc(all, func(g api.Field) bool { return g.Name == f.Name }) + 1, false
}

// drawn tells a field of few names and values, so that many are there twice.
func drawn(draw *rand.Rand) api.Field {
	names := []string{"", "a", "b", "cookie", ":method", "x-long-name"}
	f := field(names[draw.Intn(len(names))], strings.Repeat("v", draw.Intn(4)))
	if draw.Intn(6) == 0 {
		f.Value = strings.Repeat("w", draw.Intn(560))
	}
	return f
}

func TestAnyOrderP401P402(t *testing.T) {
	draw := rand.New(rand.NewSource(4))
	for range 200 {
		size := draw.Intn(513)
		x, m := made(t, size), &model{size: size}
		for range 60 {
			if f := drawn(draw); draw.Intn(8) > 0 {
				x.Add(f)
				m.add(f)
			} else if to := draw.Intn(600) - 40; x.Resize(to) != m.resize(to) {
				t.Errorf("Resize(%d): not as the document says", to)
			}
			checkTable(t, x, m.size, m.lastFirst()...)
			f := drawn(draw)
			i, just := m.find(f)
			checkFind(t, x, f, i, just)
		}
		if t.Failed() {
			return
		}
	}
}
