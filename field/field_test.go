package field

import (
	"math/rand"
	"regexp"
	"slices"
	"strconv"
	"strings"
	"testing"

	"bywash/api"
)

func field(name, value string) api.Field { return api.Field{Name: name, Value: value} }

// The colon ones of a right request and of a right response.
func asked() []api.Field {
	return []api.Field{field(":method", "GET"), field(":scheme", "http"), field(":authority", "a"), field(":path", "/")}
}

func answered() []api.Field { return []api.Field{field(":status", "200")} }

// kind is a kind of lists: its call, and the colon ones of a right list.
type kind struct {
	name  string
	call  func(...api.Field) api.Errno
	colon []api.Field
}

func kinds() []kind {
	return []kind{
		{"Request", Request, asked()},
		{"Response", Response, answered()},
		{"Trailers", Trailers, nil},
	}
}

// check holds a call's answer for a list against what is wanted.
func (k kind) check(t *testing.T, want api.Errno, l ...api.Field) {
	t.Helper()
	if got := k.call(l...); got != want {
		t.Errorf("%s(%q): %d, not %d", k.name, l, got, want)
	}
}

// behind tells a new list of the colon ones, and those behind them.
func (k kind) behind(l ...api.Field) []api.Field { return slices.Concat(k.colon, l) }

// without tells a new list of the colon ones but one.
func (k kind) without(i int) []api.Field { return slices.Delete(slices.Clone(k.colon), i, i+1) }

// with tells a new list of the colon ones, of which one has another value.
func (k kind) with(i int, value string) []api.Field {
	l := slices.Clone(k.colon)
	l[i].Value = value
	return l
}

func checkName(t *testing.T, s string, want bool) {
	t.Helper()
	if got := Name(s); got != want {
		t.Errorf("Name(%q): %v", s, got)
	}
}

func checkValue(t *testing.T, s string, want bool) {
	t.Helper()
	if got := Value(s); got != want {
		t.Errorf("Value(%q): %v", s, got)
	}
}

func TestNameByItsLengthP601(t *testing.T) {
	for n := range 300 {
		for _, s := range []string{"a", "9", "-", "_"} {
			checkName(t, strings.Repeat(s, n), 1 <= n && n <= 40)
		}
	}
}

func TestNameByItsBytesP601(t *testing.T) {
	const right = "abcdefghijklmnopqrstuvwxyz0123456789-_"
	for c := range 256 {
		s := string([]byte{byte(c)})
		want := strings.Contains(right, s)
		for _, name := range []string{s, s + "a", "a" + s, "a" + s + "b", strings.Repeat("z", 39) + s} {
			checkName(t, name, want)
		}
	}
}

func TestNameOfSomeP601(t *testing.T) {
	for _, s := range []string{"te", "x-y_0", "content-length", "connection", "0", "-", "__"} {
		checkName(t, s, true)
	}
	for _, s := range []string{":", ":path", ":status", "a:", "Te", "tE", "a b", " a", "a\n", "\xc3\xa4", "a.b", "a\x00"} {
		checkName(t, s, false)
	}
}

func TestValueByItsLengthP601(t *testing.T) {
	for n := range 600 {
		for _, s := range []string{"x", "\xff", "~"} {
			checkValue(t, strings.Repeat(s, n), n <= 200)
		}
	}
	checkValue(t, "a"+strings.Repeat(" ", 198)+"a", true)
	checkValue(t, "a"+strings.Repeat(" ", 199)+"a", false)
}

func TestValueByItsBytesP601(t *testing.T) {
	for c := range 256 {
		s := string([]byte{byte(c)})
		within := c >= 32 && c != 127
		checkValue(t, "a"+s+"b", within)
		checkValue(t, strings.Repeat("a", 198)+s+"b", within)
		for _, value := range []string{s, s + "a", "a" + s} {
			checkValue(t, value, within && c != ' ')
		}
	}
}

func TestValueWithBlanksP601(t *testing.T) {
	for _, s := range []string{"a b", "a  b", "a b c", ": ;"} {
		checkValue(t, s, true)
	}
	for _, s := range []string{" ", "  ", " a", "a ", " a ", "a b ", " a b", "\ta", "a\t", "a\tb"} {
		checkValue(t, s, false)
	}
}

func TestForbiddenP601(t *testing.T) {
	for _, k := range kinds() {
		for _, name := range []string{"connection", "transfer-encoding", "upgrade", "keep-alive"} {
			for _, value := range []string{"", "x", "trailers", "close"} {
				k.check(t, api.ErrName, k.behind(field(name, value))...)
				k.check(t, api.ErrName, field(name, value))
			}
			for _, near := range []string{name + "s", name[1:], strings.ReplaceAll(name, "-", "_") + "_"} {
				k.check(t, api.OK, k.behind(field(near, "x"))...)
			}
		}
		for _, value := range []string{"", "x", "gzip", "Trailers", "trailer", "trailers,gzip", " trailers"} {
			k.check(t, api.ErrName, k.behind(field("te", value))...)
		}
		k.check(t, api.OK, k.behind(field("te", "trailers"), field("te", "trailers"))...)
		k.check(t, api.ErrName, k.behind(field("te", "trailers"), field("te", "x"))...)
		k.check(t, api.OK, k.behind(field("tea", "x"), field("t", "x"))...)
	}
}

func TestRightListsP602(t *testing.T) {
	for _, k := range kinds() {
		k.check(t, api.OK, k.colon...)
		k.check(t, api.OK, k.behind(field("x", ""), field("x", ""), field("y", strings.Repeat("v", 200)))...)
		k.check(t, api.OK, k.behind(field(strings.Repeat("n", 40), "a b"), field("content-length", "x"))...)
	}
	trailers := kinds()[2]
	trailers.check(t, api.OK)
	trailers.check(t, api.OK, []api.Field(nil)...)
}

func TestEachErrorAloneP602(t *testing.T) {
	for _, k := range kinds() {
		for _, name := range []string{"", "X", "a b", ":", ":x", ":Path", "::path", strings.Repeat("a", 41), "x:"} {
			k.check(t, api.ErrName, k.behind(field(name, "v"))...)
			k.check(t, api.ErrName, field(name, "v"))
		}
		for _, value := range []string{" ", " v", "v ", "\x00", "v\nv", "\x7f", strings.Repeat("v", 201)} {
			k.check(t, api.ErrForm, k.behind(field("x", value))...)
			k.check(t, api.ErrForm, k.behind(field("x", "v"), field("x", value), field("x", "v"))...)
		}
		for i, f := range k.colon {
			k.check(t, api.ErrOrder, k.behind(f)...)
			k.check(t, api.ErrOrder, k.behind(field("x", ""), f)...)
			k.check(t, api.ErrOrder, f, f)
			k.check(t, api.ErrOrder, f, field(f.Name, "/other"))
			k.check(t, api.ErrOrder, append(append(k.without(i), field("x", "v")), f)...)
			k.check(t, api.ErrForm, k.with(i, "v ")...)
			k.check(t, api.ErrForm, k.with(i, "\x1f")...)
			k.check(t, api.ErrForm, k.with(i, "/"+strings.Repeat("v", 200))...)
		}
	}
}

func TestTwoErrorsAtOneFieldP602(t *testing.T) {
	for _, k := range kinds() {
		k.check(t, api.ErrName, k.behind(field("X", " v"))...)
		k.check(t, api.ErrName, k.behind(field("upgrade", "\n"))...)
		k.check(t, api.ErrName, k.behind(field("te", "trailers "))...)
		k.check(t, api.ErrName, k.behind(field("x", "v"), field(":other", "v"))...)
		k.check(t, api.ErrName, k.behind(field(":other", "\x00"))...)
		for _, f := range k.colon {
			k.check(t, api.ErrForm, f, field(f.Name, "v "))
			k.check(t, api.ErrForm, field("x", "v"), field(f.Name, "\n"))
		}
	}
}

func TestTheFirstFieldIsToldP602(t *testing.T) {
	wrong := []struct {
		e api.Errno
		f api.Field
	}{
		{api.ErrName, field("X", "v")},
		{api.ErrName, field("connection", "v")},
		{api.ErrForm, field("x", " ")},
	}
	for _, k := range kinds() {
		for _, one := range wrong {
			for _, other := range wrong {
				k.check(t, one.e, k.behind(one.f, other.f)...)
				k.check(t, one.e, one.f, other.f)
				k.check(t, one.e, k.behind(field("x", "v"), one.f, field("y", "v"), other.f)...)
			}
			for _, colon := range k.colon {
				k.check(t, one.e, k.behind(one.f, colon)...)
				k.check(t, api.ErrOrder, k.behind(colon, one.f)...)
			}
			// What is asked at the end is asked of lists that are right.
			k.check(t, one.e, one.f)
		}
	}
}

func TestColonNamesOfOtherKindsP602(t *testing.T) {
	all := append(asked(), answered()...)
	for _, k := range kinds() {
		for _, f := range all {
			if slices.Contains(k.colon, f) {
				continue
			}
			k.check(t, api.ErrName, f)
			k.check(t, api.ErrName, k.behind(f)...)
			k.check(t, api.ErrName, append([]api.Field{f}, k.colon...)...)
			k.check(t, api.ErrName, k.behind(field("x", "v"), f)...)
			k.check(t, api.ErrName, f, f)
		}
	}
}

func TestRequestInAnyOrderP602(t *testing.T) {
	l := asked()
	for a := range 4 {
		for b := range 4 {
			for c := range 4 {
				d := 6 - a - b - c
				if a == b || a == c || b == c || d < 0 || d > 3 {
					continue
				}
				kinds()[0].check(t, api.OK, l[a], l[b], l[c], l[d], field("x", "v"))
			}
		}
	}
}

func TestRequestAtItsEndP602(t *testing.T) {
	k := kinds()[0]
	k.check(t, api.ErrForm)
	k.check(t, api.ErrForm, field("x", "v"))
	for i, f := range k.colon {
		k.check(t, api.ErrForm, f)
		k.check(t, api.ErrForm, k.without(i)...)
		k.check(t, api.ErrForm, append(k.without(i), field("x", "v"))...)
		k.check(t, api.ErrForm, k.with(i, "")...)
		k.check(t, api.ErrName, append(k.without(i), field("X", "v"))...)
		k.check(t, api.ErrName, append(k.with(i, ""), field("X", "v"))...)
		k.check(t, api.ErrOrder, append(k.with(i, ""), f)...)
	}
	for _, value := range []string{"x", "*", "x/", "\\", ".", ":", "a/b", "?/"} {
		k.check(t, api.ErrForm, k.with(3, value)...)
		k.check(t, api.OK, k.with(3, "/"+value)...)
	}
	for i := range 3 {
		k.check(t, api.OK, k.with(i, "*")...)
	}
}

func TestResponseAtItsEndP602(t *testing.T) {
	k := kinds()[1]
	k.check(t, api.ErrForm)
	k.check(t, api.ErrForm, field("x", "v"), field("y", "v"))
	for _, value := range []string{"", "2", "20", "2000", "0200", "1e2", "2x0", "x00", "20x", "-10", "+20", "2.0", "200,", "2 0", "20\xff", "\xb2\x30\x30", "2/0", "2:0", "1:0", "5:0", "10:"} {
		k.check(t, api.ErrForm, k.with(0, value)...)
		k.check(t, api.ErrName, append(k.with(0, value), field("upgrade", ""))...)
	}
	for n := range 1000 {
		three := strconv.Itoa(n + 1000)[1:]
		want := api.ErrForm
		if 100 <= n && n <= 599 {
			want = api.OK
		}
		k.check(t, want, k.with(0, three)...)
		k.check(t, want, append(k.with(0, three), field("x", "v"))...)
	}
}

func TestTrailersP602(t *testing.T) {
	k := kinds()[2]
	k.check(t, api.OK, field("x", "v"), field("x", "w"), field("te", "trailers"))
	k.check(t, api.ErrName, field(":status", "200"))
	k.check(t, api.ErrName, field("x", "v"), field(":path", "/"))
	k.check(t, api.ErrForm, field("x", "v"), field("y", "v "))
}

func TestGetP602(t *testing.T) {
	l := []api.Field{field("y", "1"), field("x", "2"), field("x", "3"), field("", "4"), field(":path", "5"), field("z", "")}
	for _, c := range []struct {
		name, value string
		is          bool
	}{
		{"y", "1", true}, {"x", "2", true}, {"", "4", true}, {":path", "5", true}, {"z", "", true},
		{"X", "", false}, {"xx", "", false}, {"path", "", false}, {" ", "", false},
	} {
		if value, is := Get(c.name, l...); value != c.value || is != c.is {
			t.Errorf("Get(%q): %q %v, not %q %v", c.name, value, is, c.value, c.is)
		}
	}
	if value, is := Get(""); value != "" || is {
		t.Errorf("Get of none: %q %v", value, is)
	}
}

// checkLength holds Length of content-lengths, with others between them, against what is wanted.
func checkLength(t *testing.T, want int, e api.Errno, values ...string) {
	t.Helper()
	l := []api.Field{field("Content-Length", "3"), field("content-lengt", "4")}
	for _, value := range values {
		l = append(l, field("content-length", value), field("x", "17"), field("content-length2", "5"))
	}
	if n, got := Length(l...); n != want || got != e {
		t.Errorf("Length(%q): %d %d, not %d %d", values, n, got, want, e)
	}
}

func TestLengthP602(t *testing.T) {
	if n, e := Length(); n != -1 || e != api.OK {
		t.Errorf("Length(): %d %d", n, e)
	}
	checkLength(t, -1, api.OK)
	for n := range 10 {
		checkLength(t, n, api.OK, strconv.Itoa(n))
	}
	for s, n := range map[string]int{"17": 17, "123456789": 123456789, "999999999": 999999999, "007": 7, "000000000": 0, "000000001": 1, "010": 10, "0": 0, "08": 8} {
		checkLength(t, n, api.OK, s)
		checkLength(t, n, api.OK, s, s)
		checkLength(t, n, api.OK, s, s, s)
	}
}

func TestLengthOfAnotherFormP602(t *testing.T) {
	for _, s := range []string{"", "1000000000", "0000000000", "0000000001", "99999999999999999999", "x", "5x", "x5", "-1", "-0", "+1", "1 2", " 1", "1 ", "1.0", "1e3", "0x1", "1_0", "\xb9", "1\x00", "/", ":", "1,1"} {
		checkLength(t, -1, api.ErrForm, s)
		checkLength(t, -1, api.ErrForm, s, s)
		checkLength(t, -1, api.ErrForm, s, "5")
		checkLength(t, -1, api.ErrForm, "5", s)
		checkLength(t, -1, api.ErrForm, "5", "5", s)
	}
	for _, two := range [][2]string{{"5", "6"}, {"5", "05"}, {"05", "5"}, {"0", "00"}, {"5", "55"}} {
		checkLength(t, -1, api.ErrForm, two[0], two[1])
		checkLength(t, -1, api.ErrForm, two[0], two[0], two[1])
		checkLength(t, -1, api.ErrForm, two[0], two[1], two[0])
	}
}

func TestNothingIsWrittenIntoP602(t *testing.T) {
	l := append(asked(), field("content-length", "5"), field("X", " "), field(":path", ""))
	was := slices.Clone(l)
	for _, k := range kinds() {
		k.call(l...)
	}
	Get("x", l...)
	Length(l...)
	if !slices.Equal(l, was) {
		t.Errorf("the list was %q, and is %q", was, l)
	}
}

// The promises' words as patterns, apart from the package's own means.
var (
	names   = regexp.MustCompile(`^[a-z0-9_-]{1,40}$`)
	values  = regexp.MustCompile(`(?s)^([^\x00-\x1f\x7f]*)$`)
	digits  = regexp.MustCompile(`^[0-9]{1,9}$`)
	states  = regexp.MustCompile(`^[1-5][0-9][0-9]$`)
	banned  = regexp.MustCompile(`^(connection|transfer-encoding|upgrade|keep-alive)=|^te=`)
	allowed = regexp.MustCompile(`^te=trailers$`)
)

func modelError(f api.Field, ahead []api.Field, own string) api.Errno {
	colon := strings.HasPrefix(f.Name, ":") && strings.Contains(own, f.Name+" ")
	written := f.Name + "=" + f.Value
	if !colon && !names.MatchString(f.Name) || banned.MatchString(written) && !allowed.MatchString(written) {
		return api.ErrName
	}
	if len(f.Value) > 200 || !values.MatchString(f.Value) || f.Value != strings.Trim(f.Value, " ") {
		return api.ErrForm
	}
	for _, o := range ahead {
		if colon && (o.Name == f.Name || !strings.HasPrefix(o.Name, ":")) {
			return api.ErrOrder
		}
	}
	return api.OK
}

func modelList(l []api.Field, own string) api.Errno {
	first := map[string]string{}
	for i, f := range l {
		if e := modelError(f, l[:i], own); e != api.OK {
			return e
		}
		first[f.Name] = f.Value
	}
	for _, name := range strings.Fields(own) {
		v := first[name]
		if v == "" || name == ":path" && v[0] != '/' || name == ":status" && !states.MatchString(v) {
			return api.ErrForm
		}
	}
	return api.OK
}

func modelLength(l []api.Field) (int, api.Errno) {
	n := -1
	written := map[string]int{}
	for _, f := range l {
		if f.Name != "content-length" {
			continue
		}
		written[f.Value]++
		if !digits.MatchString(f.Value) || len(written) > 1 {
			return -1, api.ErrForm
		}
		n, _ = strconv.Atoi(f.Value)
	}
	return n, api.OK
}

// drawn tells a list of which about half are right, by how it is drawn.
func drawn(r *rand.Rand) []api.Field {
	starts := [][]api.Field{nil, asked(), answered()}
	l := starts[r.Intn(len(starts))]
	r.Shuffle(len(l), func(i, j int) { l[i], l[j] = l[j], l[i] })
	for range r.Intn(4) {
		name := []string{"x", "x", "y-1", "te", "content-length", "content-length", "upgrade", "X", "", ":path", ":status", ":method", ":x"}[r.Intn(13)]
		value := []string{"", "v", "5", "5", "05", "trailers", "trailers", "/", "200", "600", " v", "\n", "1234567890"}[r.Intn(13)]
		if r.Intn(3) > 0 {
			l = append(l, field(name, value))
		} else {
			l = slices.Insert(l, r.Intn(len(l)+1), field(name, value))
		}
	}
	if len(l) > 0 && r.Intn(3) == 0 {
		i := r.Intn(len(l))
		l = slices.Delete(l, i, i+1)
	}
	return l
}

func TestListsByTheirWordsP602(t *testing.T) {
	r := rand.New(rand.NewSource(6))
	owns := []string{":method :scheme :authority :path ", ":status ", ""}
	var told [3][api.ErrMany + 1]int
	for range 60000 {
		l := drawn(r)
		for i, k := range kinds() {
			want := modelList(l, owns[i])
			told[i][want]++
			k.check(t, want, l...)
		}
		n, e := Length(l...)
		if want, ew := modelLength(l); n != want || e != ew {
			t.Fatalf("Length(%q): %d %d, not %d %d", l, n, e, want, ew)
		}
	}
	for i, k := range kinds() {
		for _, e := range []api.Errno{api.OK, api.ErrName, api.ErrForm} {
			if told[i][e] < 300 {
				t.Errorf("%s told %d only %d times", k.name, e, told[i][e])
			}
		}
	}
}

func TestTextsByTheirWordsP601(t *testing.T) {
	r := rand.New(rand.NewSource(61))
	const some = "az09-_ :A~\x1f\x7f\x80\xff/@`{"
	for range 60000 {
		b := make([]byte, r.Intn(6))
		for i := range b {
			b[i] = some[r.Intn(len(some))]
			if r.Intn(2) == 0 {
				b[i] = "az09-_"[r.Intn(6)]
			}
		}
		s := string(b)
		checkName(t, s, names.MatchString(s))
		checkValue(t, s, values.MatchString(strings.ToValidUTF8(s, "~")) && s == strings.Trim(s, " "))
	}
}
