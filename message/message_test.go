package message

import (
	"math/rand"
	"slices"
	"strconv"
	"strings"
	"testing"

	"bywash/api"
	"bywash/field"
)

func f(name, value string) api.Field { return api.Field{Name: name, Value: value} }

// ofSum tells a list of right headers that counts just so much (33 at least), in pieces as even as may be.
func ofSum(sum int) []api.Field {
	const most = 1 + 200 + 32
	n := (sum + most - 1) / most
	var l []api.Field
	for i := range n {
		cost := (sum + i) / n
		l = append(l, f("n", strings.Repeat("v", cost-33)))
	}
	return l
}

// sumOf tells how much a list counts.
func sumOf(l []api.Field) int {
	sum := 0
	for _, x := range l {
		sum += len(x.Name) + len(x.Value) + 32
	}
	return sum
}

// post is a right request with a bit of everything.
func post() api.Request {
	return api.Request{
		Method: "POST", Scheme: "http", Authority: "x", Path: "/a",
		Fields:   []api.Field{f("b", "c"), f("content-length", "3")},
		Body:     "abc",
		Trailers: []api.Field{f("t", "u")},
	}
}

// with tells post as it is behind a change.
func with(change func(r *api.Request)) api.Request {
	r := post()
	change(&r)
	return r
}

// withFields tells a request with these Fields and so long a Body.
func withFields(body int, l ...api.Field) api.Request {
	return with(func(r *api.Request) { r.Fields, r.Body = l, strings.Repeat("x", body) })
}

func withTrailers(l ...api.Field) api.Request {
	return with(func(r *api.Request) { r.Trailers = l })
}

// four tells the headers that each request has.
func four(r api.Request) []api.Field {
	return []api.Field{f(":method", r.Method), f(":scheme", r.Scheme), f(":authority", r.Authority), f(":path", r.Path)}
}

// checkFields holds what Fields and Right tell of a request against what is wanted: the four and its own ones, or an error.
func checkFields(t *testing.T, r api.Request, want api.Errno) {
	t.Helper()
	var list []api.Field
	if want == api.OK {
		list = slices.Concat(four(r), r.Fields)
	}
	if l, e := Fields(r); e != want || !slices.Equal(l, list) {
		t.Errorf("Fields(%q): %q, %d, not %q, %d", r, l, e, list, want)
	}
	if got := Right(r); got != (want == api.OK) {
		t.Errorf("Right(%q): %v", r, got)
	}
}

func TestFieldsInTheirOrderP1501(t *testing.T) {
	checkFields(t, post(), api.OK)
	checkFields(t, withFields(0), api.OK)
	checkFields(t, withFields(0, []api.Field{}...), api.OK)
	checkFields(t, withFields(3, f("z", "1"), f("a", "2"), f("z", ""), f("m", "a b"), f("a", "2")), api.OK)
	checkFields(t, api.Request{Method: "GET", Scheme: "s", Authority: "a", Path: "/"}, api.OK)
	l, e := Fields(post())
	want := []api.Field{f(":method", "POST"), f(":scheme", "http"), f(":authority", "x"), f(":path", "/a"), f("b", "c"), f("content-length", "3")}
	if e != api.OK || !slices.Equal(l, want) {
		t.Errorf("Fields: %q, %d", l, e)
	}
}

func TestBodyByItsLengthP1501(t *testing.T) {
	for n := range 2 * api.MaxBody {
		want := api.OK
		if n > 400 {
			want = api.ErrArg
		}
		checkFields(t, withFields(n), want)
		checkFields(t, withFields(n, f("content-length", strconv.Itoa(n))), want)
	}
}

func TestTrailersOfARequestP1501(t *testing.T) {
	for _, l := range [][]api.Field{
		nil, {}, {f("a", "")}, {f("b", "1"), f("a", "2"), f("b", "1")}, {f("te", "trailers")}, {f("content-length", "99")}, {f("content-length", "x")},
	} {
		checkFields(t, withTrailers(l...), api.OK)
	}
	for _, l := range [][]api.Field{
		{f(":status", "200")}, {f(":method", "POST")}, {f(":path", "/a")}, {f("X", "")}, {f("", "")}, {f("te", "")},
		{f("upgrade", "x")}, {f("a", " ")}, {f("a", "\n")}, {f("a", strings.Repeat("v", 201))}, {f("a", "b"), f("A", "b")},
	} {
		checkFields(t, withTrailers(l...), api.ErrArg)
	}
}

func TestTrailersByTheirSumP1501(t *testing.T) {
	for sum := 500; sum <= 660; sum++ {
		l := ofSum(sum)
		if sumOf(l) != sum {
			t.Fatalf("a list of %d, not %d", sumOf(l), sum)
		}
		want := api.OK
		if sum > 600 {
			want = api.ErrArg
		}
		checkFields(t, withTrailers(l...), want)
	}
	// What counts is the trailers alone, and the headers alone.
	checkFields(t, with(func(r *api.Request) { r.Fields, r.Trailers = ofSum(400), ofSum(600) }), api.OK)
}

func TestErrorsOfARequestP1501(t *testing.T) {
	for _, c := range []struct {
		want   api.Errno
		change func(r *api.Request)
	}{
		{api.ErrForm, func(r *api.Request) { r.Method = "" }},
		{api.ErrForm, func(r *api.Request) { r.Scheme = "" }},
		{api.ErrForm, func(r *api.Request) { r.Authority = "" }},
		{api.ErrForm, func(r *api.Request) { r.Path = "" }},
		{api.ErrForm, func(r *api.Request) { r.Path = "a" }},
		{api.ErrForm, func(r *api.Request) { r.Path = "*" }},
		{api.ErrForm, func(r *api.Request) { r.Method = "GET " }},
		{api.ErrForm, func(r *api.Request) { r.Scheme = "ht\ntp" }},
		{api.ErrForm, func(r *api.Request) { r.Authority = strings.Repeat("a", 201) }},
		{api.ErrForm, func(r *api.Request) { r.Path = "/" + strings.Repeat("a", 200) }},
		{api.ErrForm, func(r *api.Request) { *r = api.Request{} }},
		{api.ErrForm, func(r *api.Request) { r.Fields[0].Value = "\x7f" }},
		{api.ErrName, func(r *api.Request) { r.Fields[0].Name = "X" }},
		{api.ErrName, func(r *api.Request) { r.Fields[0].Name = "" }},
		{api.ErrName, func(r *api.Request) { r.Fields[0].Name = "connection" }},
		{api.ErrName, func(r *api.Request) { r.Fields[0].Name = "te" }},
		{api.ErrName, func(r *api.Request) { r.Fields[0] = f(":status", "200") }},
		{api.ErrOrder, func(r *api.Request) { r.Fields[0] = f(":path", "/a") }},
		{api.ErrOrder, func(r *api.Request) { r.Fields[0] = f(":method", "POST") }},
		{api.ErrOrder, func(r *api.Request) { r.Fields[1] = f(":scheme", "http") }},
		{api.OK, func(r *api.Request) { r.Method, r.Scheme, r.Authority, r.Path = "x y", ":", "/", "//" }},
		{api.OK, func(r *api.Request) { r.Path = "/" + strings.Repeat("a", 199) }},
	} {
		checkFields(t, with(c.change), c.want)
	}
}

func TestListByItsSumP1501(t *testing.T) {
	own := sumOf(four(post()))
	for sum := 500; sum <= 660; sum++ {
		r := withFields(0, ofSum(sum-own)...)
		if got := sumOf(four(r)) + sumOf(r.Fields); got != sum {
			t.Fatalf("a list of %d, not %d", got, sum)
		}
		want := api.OK
		if sum > 600 {
			want = api.ErrSize
		}
		checkFields(t, r, want)
	}
}

func TestLengthThatIsSaidP1501(t *testing.T) {
	for _, c := range []struct {
		want   api.Errno
		body   int
		values []string
	}{
		{api.OK, 0, nil}, {api.OK, 3, nil}, {api.OK, 400, nil},
		{api.OK, 0, []string{"0"}}, {api.OK, 3, []string{"3"}}, {api.OK, 400, []string{"400"}},
		{api.OK, 3, []string{"003"}}, {api.OK, 0, []string{"000000000"}}, {api.OK, 3, []string{"3", "3"}},
		{api.ErrLength, 3, []string{"2"}}, {api.ErrLength, 3, []string{"4"}}, {api.ErrLength, 3, []string{"0"}},
		{api.ErrLength, 0, []string{"1"}}, {api.ErrLength, 0, []string{"999999999"}}, {api.ErrLength, 400, []string{"401"}},
		{api.ErrLength, 3, []string{"2", "2"}},
		{api.ErrForm, 3, []string{"x"}}, {api.ErrForm, 3, []string{""}}, {api.ErrForm, 3, []string{"3x"}},
		{api.ErrForm, 3, []string{"+3"}}, {api.ErrForm, 3, []string{"0000000003"}}, {api.ErrForm, 0, []string{"-1"}},
		{api.ErrForm, 3, []string{"3", "03"}}, {api.ErrForm, 3, []string{"3", "4"}}, {api.ErrForm, 3, []string{"4", "3"}},
	} {
		var l []api.Field
		for _, value := range c.values {
			l = append(l, f("a", "1"), f("content-length", value), f("b", "2"))
		}
		checkFields(t, withFields(c.body, l...), c.want)
	}
	// Trailers say nothing of the Body.
	checkFields(t, with(func(r *api.Request) { r.Trailers = []api.Field{f("content-length", "4")} }), api.OK)
}

// faults are changes that make a request wrong, in the order in which their errors count.
func faults() []struct {
	e      api.Errno
	change func(r *api.Request)
} {
	return []struct {
		e      api.Errno
		change func(r *api.Request)
	}{
		{api.ErrArg, func(r *api.Request) { r.Body = strings.Repeat("x", 401) }},
		{api.ErrArg, func(r *api.Request) { r.Trailers = []api.Field{f("X", "")} }},
		{api.ErrArg, func(r *api.Request) { r.Trailers = ofSum(601) }},
		{api.ErrOrder, func(r *api.Request) { r.Fields = append([]api.Field{f(":path", "/")}, r.Fields...) }},
		{api.ErrName, func(r *api.Request) { r.Fields = append(r.Fields, f("X", "")) }},
		{api.ErrForm, func(r *api.Request) { r.Authority = "" }},
		{api.ErrSize, func(r *api.Request) { r.Fields = append(r.Fields, ofSum(601)...) }},
		{api.ErrForm, func(r *api.Request) { r.Fields = append(r.Fields, f("content-length", "x")) }},
		{api.ErrLength, func(r *api.Request) { r.Fields = append(r.Fields, f("content-length", "2")) }},
	}
}

func TestTheErrorThatCountsP1501(t *testing.T) {
	all := faults()
	for some := 1; some < 1<<len(all); some++ {
		r := withFields(3)
		want := api.OK
		for i, fault := range all {
			if some>>i&1 == 0 {
				continue
			}
			fault.change(&r)
			if want == api.OK {
				want = fault.e
			}
		}
		checkFields(t, r, want)
	}
}

func TestAnswersAreNewP1501(t *testing.T) {
	own := make([]api.Field, 2, 9)
	own[0], own[1] = f("b", "c"), f("d", "e")
	trailers := []api.Field{f("t", "u"), f("v", "w")}
	r := with(func(r *api.Request) { r.Fields, r.Trailers = own, trailers })
	one, _ := Fields(r)
	two, _ := Fields(r)
	if !slices.Equal(own[:9], append([]api.Field{f("b", "c"), f("d", "e")}, make([]api.Field, 7)...)) {
		t.Errorf("the Fields are %q", own[:9])
	}
	if !slices.Equal(trailers, []api.Field{f("t", "u"), f("v", "w")}) {
		t.Errorf("the Trailers are %q", trailers)
	}
	was := slices.Clone(two)
	clear(own)
	clear(one)
	_ = append(one, f("x", "y"))
	if !slices.Equal(two, was) {
		t.Errorf("an answer was %q, and is %q", was, two)
	}
	clear(two)
	if three, e := Fields(post()); e != api.OK || len(three) != 6 || three[0] != f(":method", "POST") {
		t.Errorf("a later answer is %q, %d", three, e)
	}
}

func TestSafeP1501(t *testing.T) {
	for _, method := range []string{"GET", "HEAD", "PUT", "DELETE", "OPTIONS"} {
		if !Safe(method) {
			t.Errorf("Safe(%q) is false", method)
		}
		for _, near := range []string{strings.ToLower(method), method + " ", " " + method, method + method, method[1:], method[:len(method)-1], method[:1] + strings.ToLower(method[1:])} {
			if Safe(near) {
				t.Errorf("Safe(%q) is true", near)
			}
		}
	}
	for _, method := range []string{"", "POST", "PATCH", "TRACE", "CONNECT", "get", "X", "\x00", "GET\x00", "GET,HEAD"} {
		if Safe(method) {
			t.Errorf("Safe(%q) is true", method)
		}
	}
}

// modelFields tells by the chapter's words the error of a request.
func modelFields(r api.Request) api.Errno {
	if len(r.Body) > 400 || field.Trailers(r.Trailers...) != api.OK || len(r.Trailers) > 0 && sumOf(r.Trailers) > 600 {
		return api.ErrArg
	}
	l := slices.Concat(four(r), r.Fields)
	n, e := field.Length(l...)
	switch {
	case field.Request(l...) != api.OK:
		return field.Request(l...)
	case sumOf(l) > 600:
		return api.ErrSize
	case e != api.OK:
		return e
	case n >= 0 && n != len(r.Body):
		return api.ErrLength
	}
	return api.OK
}

// drawn tells one of some texts.
func drawn(r *rand.Rand, some ...string) string { return some[r.Intn(len(some))] }

// drawnFields tells a list of which most are right.
func drawnFields(r *rand.Rand) []api.Field {
	var l []api.Field
	for range r.Intn(4) {
		switch r.Intn(20) {
		case 0:
			l = append(l, f(drawn(r, "X", ":path", ":x", "te", "upgrade"), "v"))
		case 1:
			l = append(l, f("x", drawn(r, " ", "\n", "v ")))
		case 2, 3, 4, 5, 6, 7:
			l = append(l, f("content-length", drawn(r, "3", "3", "3", "3", "0", "03", "2", "x")))
		default:
			l = append(l, f("x", strings.Repeat("v", 50*r.Intn(5))))
		}
	}
	return l
}

func TestRequestsByTheChaptersWordsP1501(t *testing.T) {
	r := rand.New(rand.NewSource(1501))
	var told [api.ErrMany + 1]int
	for range 40000 {
		x := api.Request{
			Method: drawn(r, "GET", "POST", "POST", "PUT", "x", ""), Scheme: drawn(r, "http", "https"),
			Authority: drawn(r, "a", strings.Repeat("a", 150)), Path: drawn(r, "/", "/", "/", "/a", "a", strings.Repeat("/", 200)),
			Fields: drawnFields(r), Body: strings.Repeat("x", []int{3, 3, 3, 3, 3, 0, 2, 400, 401}[r.Intn(9)]), Trailers: drawnFields(r),
		}
		want := modelFields(x)
		told[want]++
		checkFields(t, x, want)
	}
	for _, e := range []api.Errno{api.OK, api.ErrArg, api.ErrForm, api.ErrName, api.ErrOrder, api.ErrSize, api.ErrLength} {
		if told[e] < 300 {
			t.Errorf("%d was told only %d times: too few to say anything", e, told[e])
		}
	}
}
