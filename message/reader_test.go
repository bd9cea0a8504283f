package message

import (
	"math"
	"math/rand"
	"slices"
	"strconv"
	"strings"
	"testing"

	"bywash/api"
	"bywash/field"
)

// told is what a Reader tells of itself.
type told struct {
	status           int
	fields, trailers []api.Field
	done             bool
}

func (a told) equal(b told) bool {
	return a.status == b.status && slices.Equal(a.fields, b.fields) && slices.Equal(a.trailers, b.trailers) && a.done == b.done
}

func tell(r *Reader) told { return told{r.Status(), r.Fields(), r.Trailers(), r.Done()} }

// piece is what a Reader is handed: headers, or n bytes.
type piece struct {
	data bool
	n    int
	end  bool
	l    []api.Field
}

func heads(l ...api.Field) piece    { return piece{l: l} }
func headsEnd(l ...api.Field) piece { return piece{l: l, end: true} }
func data(n int) piece              { return piece{data: true, n: n} }
func dataEnd(n int) piece           { return piece{data: true, n: n, end: true} }

func (p piece) hand(r *Reader) api.Errno {
	if p.data {
		return r.Data(p.n, p.end)
	}
	return r.Headers(p.end, p.l...)
}

// turn is a piece, what it tells, and what the Reader tells behind it.
type turn struct {
	p      piece
	e      api.Errno
	behind told
}

func st(status string) api.Field { return f(":status", status) }
func long(n string) api.Field    { return f("content-length", n) }

// What a Reader tells ahead of its response, and behind headers of this status.
var none = told{}

func of(status int, l ...api.Field) told { return told{status: status, fields: l} }

// ended tells the same of a Reader that is Done.
func (a told) ended() told { a.done = true; return a }

// trailed tells the same with trailers, and Done.
func (a told) trailed(l ...api.Field) told { a.trailers = l; return a.ended() }

// anyPieces are pieces, right and wrong, that a Reader is handed behind its end.
func anyPieces() []piece {
	return []piece{
		heads(st("200")), headsEnd(st("200")), heads(st("100")), headsEnd(st("100")), heads(), headsEnd(), headsEnd(f("t", "u")),
		headsEnd(f("X", "")), heads(st("x")), headsEnd(st("200"), long("x")), data(0), dataEnd(0), data(1), dataEnd(3), data(-1), dataEnd(-1),
	}
}

// checkTurns hands a new Reader pieces one behind the other, and holds all that it tells against what is wanted; behind an error or an end, any more pieces.
func checkTurns(t *testing.T, method string, turns ...turn) {
	t.Helper()
	r := New(method)
	if got := tell(r); !got.equal(none) {
		t.Errorf("New(%q) tells %v", method, got)
	}
	for i, x := range turns {
		e := x.p.hand(r)
		got := tell(r)
		if e != x.e || !got.equal(x.behind) {
			t.Errorf("%q: piece %d, %v, told %d, %v, not %d, %v", method, i, x.p, e, got, x.e, x.behind)
		}
		if e != api.OK || got.done {
			checkOver(t, r, got)
		}
	}
}

// checkOver holds that each piece tells ErrState, and leaves what is told as it was.
func checkOver(t *testing.T, r *Reader, was told) {
	t.Helper()
	for _, p := range anyPieces() {
		if e := p.hand(r); e != api.ErrState {
			t.Errorf("over: %v told %d", p, e)
		}
		if got := tell(r); !got.equal(was) {
			t.Errorf("over: told %v, not %v, behind %v", got, was, p)
		}
	}
}

func TestExampleP1502(t *testing.T) {
	checkTurns(t, "GET", turn{headsEnd(st("200")), api.OK, of(200).ended()})
}

func TestHeadersOfTheResponseP1502(t *testing.T) {
	own := []api.Field{f("b", "1"), f("a", "2"), f("b", ""), long("0")}
	all := slices.Concat([]api.Field{st("200")}, own)
	checkTurns(t, "GET", turn{headsEnd(all...), api.OK, of(200, own...).ended()})
	checkTurns(t, "GET", turn{heads(all...), api.OK, of(200, own...)}, turn{dataEnd(0), api.OK, of(200, own...).ended()})
	checkTurns(t, "GET", turn{heads(st("404")), api.OK, of(404)}, turn{headsEnd(), api.OK, of(404).ended()})
	for status := 200; status < 600; status++ {
		digits := strconv.Itoa(status)
		for _, method := range []string{"GET", "HEAD", "POST", "", "head"} {
			checkTurns(t, method, turn{headsEnd(st(digits)), api.OK, of(status).ended()})
			checkTurns(t, method, turn{heads(st(digits), f("a", "b")), api.OK, of(status, f("a", "b"))})
		}
	}
}

func TestHeadersAheadOfTheResponsesP1502(t *testing.T) {
	for status := 100; status < 200; status++ {
		digits := strconv.Itoa(status)
		checkTurns(t, "GET", turn{headsEnd(st(digits)), api.ErrProto, none})
		checkTurns(t, "GET",
			turn{heads(st(digits)), api.OK, none},
			turn{heads(st("200")), api.OK, of(200)},
			turn{heads(st(digits)), api.ErrProto, of(200)})
		checkTurns(t, "HEAD",
			turn{heads(st("100"), f("a", "b"), long("5")), api.OK, none},
			turn{heads(st(digits), long("x")), api.OK, none},
			turn{heads(st(digits)), api.OK, none},
			turn{headsEnd(st("201"), f("c", "d")), api.OK, of(201, f("c", "d")).ended()})
		checkTurns(t, "GET", turn{heads(st(digits)), api.OK, none}, turn{headsEnd(st(digits)), api.ErrProto, none})
		checkTurns(t, "GET", turn{heads(st(digits)), api.OK, none}, turn{data(0), api.ErrProto, none})
		checkTurns(t, "GET", turn{heads(st(digits)), api.OK, none}, turn{headsEnd(f("t", "u")), api.ErrForm, none})
	}
	// What those say of a length is of no body.
	checkTurns(t, "GET",
		turn{heads(st("103"), long("1")), api.OK, none},
		turn{heads(st("200")), api.OK, of(200)},
		turn{dataEnd(9), api.OK, of(200).ended()})
}

// wrongAnswers are lists that field.Response does not take, by their errors.
func wrongAnswers() map[api.Errno][][]api.Field {
	return map[api.Errno][][]api.Field{
		api.ErrForm: {
			{}, {f("a", "b")}, {long("3")}, {st("")}, {st("20")}, {st("2000")}, {st("099")}, {st("600")}, {st("20x")}, {st("x")},
			{st("200"), f("a", " b")}, {st("200"), f("a", "\n")}, {st("200"), f("a", strings.Repeat("v", 201))}, {st("200 ")},
		},
		api.ErrName: {
			{st("200"), f("A", "b")}, {st("200"), f("", "b")}, {f(":path", "/"), st("200")}, {st("200"), f("connection", "b")},
			{st("200"), f("te", "b")}, {st("100"), f("A", "b")}, {st("x"), f("A", "b")},
		},
		api.ErrOrder: {{st("200"), st("200")}, {f("a", "b"), st("200")}, {st("200"), f("a", "b"), st("200")}, {st("100"), st("200")}},
	}
}

func TestErrorsOfAResponseP1502(t *testing.T) {
	for e, lists := range wrongAnswers() {
		for _, l := range lists {
			if got := field.Response(l...); got != e {
				t.Fatalf("Response(%q): %d", l, got)
			}
			for _, method := range []string{"GET", "HEAD"} {
				checkTurns(t, method, turn{heads(l...), e, none})
				checkTurns(t, method, turn{headsEnd(l...), e, none})
				checkTurns(t, method, turn{heads(st("100")), api.OK, none}, turn{headsEnd(l...), e, none})
			}
		}
	}
}

func TestLengthsThatAreNoneP1502(t *testing.T) {
	for _, method := range []string{"GET", "HEAD"} {
		for _, digits := range []string{"200", "204", "304", "500"} {
			for _, n := range []string{"", "x", "-1", "+1", "1000000000", "0000000001", "1,1", "0x1"} {
				checkTurns(t, method, turn{heads(st(digits), long(n)), api.ErrForm, none})
				checkTurns(t, method, turn{headsEnd(st(digits), f("a", "b"), long(n)), api.ErrForm, none})
			}
			checkTurns(t, method, turn{heads(st(digits), long("3"), long("03")), api.ErrForm, none})
			checkTurns(t, method, turn{headsEnd(st(digits), long("0"), long("1")), api.ErrForm, none})
		}
	}
	// The errors of field.Response count first.
	checkTurns(t, "GET", turn{headsEnd(st("200"), long("x"), f("A", "b")), api.ErrName, none})
	checkTurns(t, "GET", turn{headsEnd(st("200"), long("x"), st("200")), api.ErrOrder, none})
	checkTurns(t, "GET", turn{headsEnd(st("100"), long("x")), api.ErrProto, none})
}

func TestHeadersWithEndAndALengthP1502(t *testing.T) {
	for _, c := range []struct {
		method, status, length string
		want                   api.Errno
	}{
		{"GET", "200", "0", api.OK}, {"GET", "200", "000", api.OK}, {"GET", "200", "1", api.ErrLength}, {"GET", "200", "999999999", api.ErrLength},
		{"POST", "500", "3", api.ErrLength}, {"GET", "205", "9", api.ErrLength}, {"GET", "203", "9", api.ErrLength}, {"GET", "303", "9", api.ErrLength},
		{"GET", "305", "9", api.ErrLength}, {"GET", "404", "9", api.ErrLength}, {"GET", "504", "9", api.ErrLength}, {"", "200", "1", api.ErrLength},
		{"head", "200", "1", api.ErrLength}, {"HEAD ", "200", "1", api.ErrLength}, {"HEADS", "200", "1", api.ErrLength}, {"HEA", "200", "1", api.ErrLength},
		{"HEAD", "200", "0", api.OK}, {"HEAD", "200", "1", api.OK}, {"HEAD", "500", "999999999", api.OK}, {"HEAD", "204", "5", api.OK},
		{"GET", "204", "0", api.OK}, {"GET", "204", "5", api.OK}, {"GET", "304", "0", api.OK}, {"GET", "304", "999999999", api.OK}, {"POST", "304", "1", api.OK},
	} {
		behind := none
		if c.want == api.OK {
			status, _ := strconv.Atoi(c.status)
			behind = of(status, long(c.length)).ended()
		}
		checkTurns(t, c.method, turn{headsEnd(st(c.status), long(c.length)), c.want, behind})
		checkTurns(t, c.method, turn{heads(st("102")), api.OK, none}, turn{headsEnd(st(c.status), long(c.length)), c.want, behind})
	}
}

func TestTrailersP1502(t *testing.T) {
	for _, l := range [][]api.Field{
		{}, {f("t", "u")}, {f("t", "u"), f("s", ""), f("t", "u")}, {long("99")}, {long("x")}, {f("te", "trailers")},
	} {
		checkTurns(t, "GET", turn{heads(st("200")), api.OK, of(200)}, turn{headsEnd(l...), api.OK, of(200).trailed(l...)})
		checkTurns(t, "GET", turn{heads(st("200")), api.OK, of(200)}, turn{heads(l...), api.ErrProto, of(200)})
		checkTurns(t, "GET",
			turn{heads(st("200"), f("a", "b"), long("3")), api.OK, of(200, f("a", "b"), long("3"))},
			turn{data(3), api.OK, of(200, f("a", "b"), long("3"))},
			turn{headsEnd(l...), api.OK, of(200, f("a", "b"), long("3")).trailed(l...)})
	}
	wrong := map[api.Errno][]api.Field{api.ErrName: {f("t", "u"), f("T", "u")}, api.ErrForm: {f("t", "u "), f("T", "u")}}
	for e, l := range wrong {
		checkTurns(t, "HEAD", turn{heads(st("200")), api.OK, of(200)}, turn{headsEnd(l...), e, of(200)})
		checkTurns(t, "GET", turn{heads(st("200")), api.OK, of(200)}, turn{heads(l...), api.ErrProto, of(200)})
		checkTurns(t, "GET",
			turn{heads(st("200"), f("a", "b"), long("3")), api.OK, of(200, f("a", "b"), long("3"))},
			turn{headsEnd(l...), e, of(200, f("a", "b"), long("3"))})
	}
	checkTurns(t, "GET", turn{heads(st("200")), api.OK, of(200)}, turn{headsEnd(st("200")), api.ErrName, of(200)})
}

func TestTrailersAheadOfWhatWasSaidP1502(t *testing.T) {
	three := of(200, long("3"))
	start := turn{heads(st("200"), long("3")), api.OK, three}
	end := headsEnd(f("t", "u"))
	checkTurns(t, "GET", start, turn{end, api.ErrLength, three})
	checkTurns(t, "GET", start, turn{data(2), api.OK, three}, turn{end, api.ErrLength, three})
	checkTurns(t, "GET", start, turn{data(3), api.OK, three}, turn{end, api.OK, three.trailed(f("t", "u"))})
	checkTurns(t, "HEAD", start, turn{end, api.OK, three.trailed(f("t", "u"))})
	checkTurns(t, "HEAD", start, turn{data(1), api.OK, three}, turn{end, api.ErrLength, three})
	checkTurns(t, "HEAD", start, turn{data(3), api.OK, three}, turn{end, api.OK, three.trailed(f("t", "u"))})
}

func TestDataAheadOfTheHeadersP1502(t *testing.T) {
	for _, n := range []int{0, 1, -1, math.MinInt, math.MaxInt} {
		checkTurns(t, "GET", turn{data(n), api.ErrProto, none})
		checkTurns(t, "HEAD", turn{dataEnd(n), api.ErrProto, none})
		checkTurns(t, "GET", turn{heads(st("100")), api.OK, none}, turn{dataEnd(n), api.ErrProto, none})
	}
}

func TestDataBelowNothingP1502(t *testing.T) {
	for _, n := range []int{-1, -2, -1 << 32, math.MinInt} {
		for _, l := range [][]api.Field{nil, {long("3")}, {long("0")}} {
			whole := of(200, l...)
			start := turn{heads(append([]api.Field{st("200")}, l...)...), api.OK, whole}
			checkTurns(t, "GET", start, turn{data(n), api.ErrArg, whole})
			checkTurns(t, "GET", start, turn{dataEnd(n), api.ErrArg, whole})
			checkTurns(t, "HEAD", start, turn{data(0), api.OK, whole}, turn{data(n), api.ErrArg, whole})
		}
	}
}

// checkBody hands a Reader the headers of a response, with a length that is said ("" is none), and Data, the last of them with end; all but the last one tell nothing.
func checkBody(t *testing.T, method, status, length string, want api.Errno, pieces ...int) {
	t.Helper()
	l := []api.Field{f("a", "b")}
	if length != "" {
		l = append(l, long(length))
	}
	n, _ := strconv.Atoi(status)
	whole := of(n, l...)
	turns := []turn{{heads(append([]api.Field{st(status)}, l...)...), api.OK, whole}}
	for i, n := range pieces {
		switch {
		case i < len(pieces)-1:
			turns = append(turns, turn{data(n), api.OK, whole})
		case want == api.OK:
			turns = append(turns, turn{dataEnd(n), api.OK, whole.ended()})
		default:
			turns = append(turns, turn{dataEnd(n), want, whole})
		}
	}
	checkTurns(t, method, turns...)
}

func TestBodyOfWhatWasSaidP1502(t *testing.T) {
	for _, pieces := range [][]int{{5}, {2, 3}, {0, 5}, {5, 0}, {0, 0, 5, 0, 0}, {1, 1, 1, 1, 1}, {1, 1, 1, 1, 1, 0}, {4, 1}} {
		for _, c := range [][2]string{{"GET", "200"}, {"HEAD", "200"}, {"GET", "204"}, {"GET", "304"}, {"POST", "599"}} {
			checkBody(t, c[0], c[1], "5", api.OK, pieces...)
			checkBody(t, c[0], c[1], "000005", api.OK, pieces...)
			checkBody(t, c[0], c[1], "", api.OK, pieces...)
			checkBody(t, c[0], c[1], "6", api.ErrLength, pieces...)
			checkBody(t, c[0], c[1], "999999999", api.ErrLength, pieces...)
		}
	}
	checkBody(t, "GET", "200", "0", api.OK, 0)
	checkBody(t, "GET", "200", "0", api.OK, 0, 0, 0)
	checkBody(t, "GET", "200", "999999999", api.OK, 999999999)
	checkBody(t, "GET", "200", "999999999", api.OK, 999999998, 1)
	checkBody(t, "GET", "200", "999999999", api.ErrLength, 999999998)
}

func TestFewerBytesAtTheEndP1502(t *testing.T) {
	for _, pieces := range [][]int{{0}, {0, 0}, {1}, {1, 0}, {2, 2}, {4}, {0, 4, 0}} {
		checkBody(t, "GET", "200", "5", api.ErrLength, pieces...)
		checkBody(t, "head", "200", "5", api.ErrLength, pieces...)
		checkBody(t, "GET", "205", "5", api.ErrLength, pieces...)
		checkBody(t, "GET", "303", "5", api.ErrLength, pieces...)
	}
}

func TestMoreBytesThanWereSaidP1502(t *testing.T) {
	five := of(200, long("5"))
	start := turn{heads(st("200"), long("5")), api.OK, five}
	for _, method := range []string{"GET", "HEAD"} {
		for _, n := range []int{6, 7, 1 << 32, math.MaxInt - 5, math.MaxInt} {
			checkTurns(t, method, start, turn{data(n), api.ErrLength, five})
			checkTurns(t, method, start, turn{dataEnd(n), api.ErrLength, five})
			checkTurns(t, method, start, turn{data(0), api.OK, five}, turn{data(n), api.ErrLength, five})
		}
		for _, n := range []int{1, 2, 6, math.MaxInt - 4, math.MaxInt} {
			checkTurns(t, method, start, turn{data(5), api.OK, five}, turn{data(n), api.ErrLength, five})
			checkTurns(t, method, start, turn{data(2), api.OK, five}, turn{data(3), api.OK, five}, turn{dataEnd(n), api.ErrLength, five})
		}
	}
	nothing := of(200, long("0"))
	checkTurns(t, "GET", turn{heads(st("200"), long("0")), api.OK, nothing}, turn{data(1), api.ErrLength, nothing})
	for _, digits := range []string{"204", "304"} {
		status, _ := strconv.Atoi(digits)
		whole := of(status, long("5"))
		checkTurns(t, "GET", turn{heads(st(digits), long("5")), api.OK, whole}, turn{data(6), api.ErrLength, whole})
	}
}

func TestNoBodyWhateverWasSaidP1502(t *testing.T) {
	for _, c := range [][2]string{{"HEAD", "200"}, {"HEAD", "404"}, {"HEAD", "204"}, {"GET", "204"}, {"GET", "304"}, {"POST", "304"}, {"", "204"}} {
		for _, length := range []string{"", "0", "1", "3", "999999999"} {
			checkBody(t, c[0], c[1], length, api.OK, 0)
			checkBody(t, c[0], c[1], length, api.OK, 0, 0)
		}
		for _, pieces := range [][]int{{1}, {2}, {0, 1}, {1, 0}, {1, 1}} {
			checkBody(t, c[0], c[1], "3", api.ErrLength, pieces...)
			checkBody(t, c[0], c[1], "", api.OK, pieces...)
		}
		checkBody(t, c[0], c[1], "3", api.OK, 3)
		checkBody(t, c[0], c[1], "3", api.OK, 1, 2, 0)
	}
}

func TestNoLengthSaidP1502(t *testing.T) {
	for _, pieces := range [][]int{{0}, {1}, {400}, {1, 2, 3, 0}, {math.MaxInt}, {math.MaxInt, math.MaxInt, math.MaxInt, 1}} {
		for _, c := range [][2]string{{"GET", "200"}, {"HEAD", "200"}, {"GET", "204"}, {"GET", "304"}, {"POST", "500"}} {
			checkBody(t, c[0], c[1], "", api.OK, pieces...)
		}
	}
}

func TestAWholeRowP1502(t *testing.T) {
	whole := of(200, f("a", "b"), long("5"))
	checkTurns(t, "GET",
		turn{heads(st("100")), api.OK, none},
		turn{heads(st("103"), f("x", "y")), api.OK, none},
		turn{heads(st("200"), f("a", "b"), long("5")), api.OK, whole},
		turn{data(2), api.OK, whole},
		turn{data(0), api.OK, whole},
		turn{data(3), api.OK, whole},
		turn{headsEnd(f("t", "u"), f("v", "w")), api.OK, whole.trailed(f("t", "u"), f("v", "w"))})
}

func TestReadersThatAreNoneP1502(t *testing.T) {
	var zero Reader
	for _, r := range []*Reader{nil, &zero, new(Reader)} {
		if got := tell(r); !got.equal(none) {
			t.Errorf("told %v", got)
		}
		checkOver(t, r, none)
	}
}

func TestReadersByThemselvesP1502(t *testing.T) {
	one, two := New("HEAD"), New("GET")
	if one == two {
		t.Fatal("New told one Reader twice")
	}
	one.Headers(true, st("x"))
	if e := two.Headers(false, st("200"), long("5")); e != api.OK {
		t.Errorf("another's error told %d", e)
	}
	if e := New("HEAD").Headers(true, st("200"), long("5")); e != api.OK {
		t.Errorf("another's error told %d", e)
	}
	if !tell(two).equal(of(200, long("5"))) || !tell(one).equal(none) {
		t.Errorf("told %v, %v", tell(one), tell(two))
	}
}

func TestAnswersAreNewP1502(t *testing.T) {
	l := []api.Field{st("200"), f("a", "b"), f("c", "d")}
	tail := make([]api.Field, 1, 5)
	tail[0] = f("t", "u")
	r := New("GET")
	r.Headers(false, l...)
	r.Headers(true, tail...)
	if !slices.Equal(l, []api.Field{st("200"), f("a", "b"), f("c", "d")}) || !slices.Equal(tail[:5], append([]api.Field{f("t", "u")}, make([]api.Field, 4)...)) {
		t.Errorf("what was handed in is %q, %q", l, tail[:5])
	}
	want := of(200, f("a", "b"), f("c", "d")).trailed(f("t", "u"))
	clear(l)
	clear(tail)
	if !tell(r).equal(want) {
		t.Errorf("told %v behind a change of what was handed in", tell(r))
	}
	first := tell(r)
	clear(r.Fields())
	clear(r.Trailers())
	_, _ = append(r.Fields(), f("x", "y")), append(r.Trailers(), f("x", "y"))
	if !tell(r).equal(want) || !first.equal(want) {
		t.Errorf("told %v, %v behind a change of an answer", tell(r), first)
	}
}

// modelled tells by the chapter's words, from all pieces up to it, what the last of them tells, and what is told behind it.
func modelled(method string, pieces []piece) (api.Errno, told) {
	if len(pieces) == 0 {
		return api.OK, none
	}
	ahead, last := pieces[:len(pieces)-1], pieces[len(pieces)-1]
	e, was := modelled(method, ahead)
	if e != api.OK || was.done {
		return api.ErrState, was
	}
	behind, sum := was, 0
	for _, p := range ahead {
		sum += p.n
	}
	switch {
	case was.status == 0 && last.data:
		return api.ErrProto, was
	case was.status == 0:
		e, now := modelledAnswer(last)
		if e != api.OK || now.status == 0 {
			return e, was
		}
		behind = now
	case last.data && last.n < 0:
		return api.ErrArg, was
	case last.data:
		sum += last.n
	case !last.end:
		return api.ErrProto, was
	case field.Trailers(last.l...) != api.OK:
		return field.Trailers(last.l...), was
	default:
		behind.trailers = last.l
	}
	said, _ := field.Length(behind.fields...)
	empty := sum == 0 && (method == "HEAD" || behind.status == 204 || behind.status == 304)
	if said >= 0 && (sum > said || last.end && sum != said && !empty) {
		return api.ErrLength, was
	}
	behind.done = last.end
	return api.OK, behind
}

// modelledAnswer tells by the chapter's words what headers ahead of the response's, or these, tell by themselves.
func modelledAnswer(p piece) (api.Errno, told) {
	if e := field.Response(p.l...); e != api.OK {
		return e, none
	}
	digits, _ := field.Get(":status", p.l...)
	if strings.HasPrefix(digits, "1") && p.end {
		return api.ErrProto, none
	} else if strings.HasPrefix(digits, "1") {
		return api.OK, none
	}
	now := told{}
	now.status, _ = strconv.Atoi(digits)
	for _, x := range p.l {
		if x.Name != ":status" {
			now.fields = append(now.fields, x)
		}
	}
	_, e := field.Length(p.l...)
	return e, now
}

// drawnPiece tells a piece as they come, mostly; a response's headers first of all.
func drawnPiece(r *rand.Rand, first bool) piece {
	if r.Intn(10) == 0 {
		return anyPieces()[r.Intn(len(anyPieces()))]
	}
	end := r.Intn(5) == 0
	if first {
		l := []api.Field{st(drawn(r, "100", "103", "200", "200", "204", "304", "404"))}
		for range r.Intn(3) {
			l = append(l, f(drawn(r, "a", "b", "content-length", "content-length"), drawn(r, "0", "3", "3", "4")))
		}
		return piece{l: l, end: end}
	}
	if r.Intn(5) == 0 {
		return piece{l: []api.Field{f("t", "u")}, end: r.Intn(5) > 0}
	}
	return piece{data: true, n: r.Intn(4), end: end}
}

func TestReadersByTheChaptersWordsP1502(t *testing.T) {
	r := rand.New(rand.NewSource(1502))
	var errors [api.ErrMany + 1]int
	dones := 0
	for range 40000 {
		method := drawn(r, "GET", "GET", "HEAD", "POST")
		reader := New(method)
		var pieces []piece
		for range 1 + r.Intn(7) {
			p := drawnPiece(r, reader.Status() == 0)
			pieces = append(pieces, p)
			want, behind := modelled(method, pieces)
			e := p.hand(reader)
			if got := tell(reader); e != want || !got.equal(behind) {
				t.Fatalf("%q: %v told %d, %v, not %d, %v", method, pieces, e, got, want, behind)
			}
			errors[e]++
		}
		if reader.Done() {
			dones++
		}
	}
	for _, e := range []api.Errno{api.OK, api.ErrState, api.ErrProto, api.ErrLength, api.ErrForm, api.ErrName, api.ErrArg} {
		if errors[e] < 300 {
			t.Errorf("%d was told only %d times: too few to say anything", e, errors[e])
		}
	}
	if dones < 6000 {
		t.Errorf("only %d Readers were Done: too few to say anything", dones)
	}
}
