package conn

import (
	"fmt"
	"math"
	"strings"
	"testing"

	"bywash/api"
	"bywash/block"
	"bywash/pack"
)

func TestExampleP1901(t *testing.T) {
	if n := len(New(plainConfig).Take(1000)); n != 24+27 {
		t.Errorf("%d bytes", n)
	}
}

func TestNewP1901(t *testing.T) {
	made := func(c Config, want bool) {
		t.Helper()
		if is := New(c) != nil; is != want {
			t.Errorf("New(%+v): made %v", c, is)
		}
	}
	top := api.MaxIds
	for _, w := range []int{1, 2, 64, 100, 65534, 65535} {
		for _, first := range []int{1, 3, 99, top - 2, top} {
			made(Config{w, first, 1, 1}, true)
			made(Config{w, first, math.MaxInt, math.MaxInt}, true)
		}
	}
	for _, w := range []int{0, -1, 65536, 65537, api.MaxWindow, math.MaxInt, math.MinInt} {
		made(Config{w, 1, 1, 1}, false)
	}
	for _, first := range []int{0, -1, -3, 2, 4, top - 1, top + 1, top + 2, math.MaxInt, math.MinInt} {
		made(Config{1, first, 1, 1}, false)
	}
	for _, n := range []int{0, -1, math.MinInt} {
		made(Config{1, 1, n, 1}, false)
		made(Config{1, 1, 1, n}, false)
		made(Config{1, 1, n, n}, false)
	}
	made(Config{}, false)
}

func TestFirstBytesP1901(t *testing.T) {
	for window, bytes := range map[int]string{1: "\x00\x01", 100: "\x00\x64", 300: "\x01\x2c", 65535: "\xff\xff"} {
		c := New(Config{window, 7, 1, 1})
		want := "PRI * HTTP/2.0\r\n\r\nSM\r\n\r\n" +
			"\x00\x00\x12\x04\x00\x00\x00\x00\x00" +
			"\x00\x02\x00\x00\x00\x00" + "\x00\x04\x00\x00" + bytes + "\x00\x06\x00\x00\x02\x58"
		if got := c.Take(1 << 20); got != want {
			t.Errorf("Window %d: %q, not %q", window, got, want)
		}
	}
}

func TestNewStandsP1901(t *testing.T) {
	s := begun(t, plainConfig)
	s.stands(0, true, false, api.OK)
	s.counts(51, 0)
	s.unknown(1, 0, -1, 2, 3, math.MaxInt, math.MinInt)
	s.stands(0, true, false, api.OK)
	s.counts(51, 0)
}

// A request may be opened ahead of all that the server says.
func TestOpenAheadOfTheServerP1901(t *testing.T) {
	s := begun(t, plainConfig)
	s.opens(get("/"), 1)
	s.c.Take(51)
	s.said(saysHead(1, 5, "/"))
}

// bytes holds a request's headers byte by byte.
func TestBytesOfARequestP1901(t *testing.T) {
	for name, x := range map[string]struct {
		r   api.Request
		end bool
	}{
		"plain":             {get("/"), true},
		"with fields":       {get("/x", fl("a", "b"), fl("content-length", "0"), fl("a", "c")), true},
		"with a body":       {post("abc"), false},
		"with trailers":     {post("", fl("t", "u")), false},
		"with both of them": {post("abc", fl("t", "u")), false},
	} {
		s := plain(t)
		p := pack.NewPacker()
		want := ""
		for _, id := range []int{1, 3} { // the second one by the table that the first one left
			s.opens(x.r, id)
			l := append([]api.Field{fl(":method", x.r.Method), fl(":scheme", "http"), fl(":authority", "a"), fl(":path", x.r.Path)}, x.r.Fields...)
			cut, _ := block.Cut(id, p.Pack(l...), x.end, 64)
			want += bytesOfFrames(cut...)
			if x.r.Body != "" {
				f := data(id, x.r.Body)
				if len(x.r.Trailers) == 0 {
					f.Flags = api.End
				}
				want += bytesOfFrames(f)
			}
			if len(x.r.Trailers) > 0 {
				cut, _ := block.Cut(id, p.Pack(x.r.Trailers...), true, 64)
				want += bytesOfFrames(cut...)
			}
		}
		if got := s.c.Take(1 << 20); got != want {
			t.Errorf("%s: %q, not %q", name, got, want)
		}
	}
}

func TestNumbersOfStreamsP1901(t *testing.T) {
	s := met(t, Config{100, 11, 5, 5})
	s.opens(get("/"), 11)
	s.opens(get("/"), 13)
	s.refuses(get(""), api.ErrForm)
	s.opens(get("/"), 15)
	s.unknown(1, 9, 12, 17)
	s.stands(3, true, false, api.OK)
}

// wrongs are requests that may not be, and what message.Fields tells of each.
func wrongs() map[string]struct {
	r api.Request
	e api.Errno
} {
	type wrong = struct {
		r api.Request
		e api.Errno
	}
	long := get("/")
	long.Body = of(401, "x")
	sum := get("/", fl("a", of(200, "x")), fl("b", of(200, "x")))
	return map[string]wrong{
		"body":     {long, api.ErrArg},
		"trailers": {post("", fl(":path", "/")), api.ErrArg},
		"name":     {get("/", fl("A", "b")), api.ErrName},
		"value":    {get("/", fl("a", " b")), api.ErrForm},
		"order":    {get("/", fl(":path", "/")), api.ErrOrder},
		"path":     {get("x"), api.ErrForm},
		"zero":     {api.Request{}, api.ErrForm},
		"sum":      {sum, api.ErrSize},
		"length":   {get("/", fl("content-length", "1")), api.ErrLength},
		"digits":   {get("/", fl("content-length", "x")), api.ErrForm},
	}
}

func TestOpenOfWhatMayNotBeP1901(t *testing.T) {
	s := plain(t)
	for name, x := range wrongs() {
		s.refuses(x.r, x.e)
		if said := s.says(); len(said) != 0 {
			t.Errorf("%s: said %q", name, said)
		}
		s.stands(0, true, false, api.OK)
	}
	s.opens(get("/"), 1) // no number went
	s.said(saysHead(1, 5, "/"))
}

func TestErrorsOfOpenInTheirOrderP1901(t *testing.T) {
	bad := get("x")
	s := met(t, plainConfig, pf(api.PrefMany, 0))
	s.refuses(bad, api.ErrBusy)
	s.refuses(get("/"), api.ErrBusy)
	s.stands(0, false, false, api.OK)
	s.feeds(api.OK, away(0, 0, ""))
	s.refuses(bad, api.ErrGone)
	s.refuses(get("/"), api.ErrGone)
	s.stands(0, false, true, api.OK)
	s.c.Close()
	s.refuses(bad, api.ErrClosed)
	s.refuses(get("/"), api.ErrClosed)
	s.stands(0, false, true, api.ErrClosed)
	s = plain(t)
	s.feeds(api.ErrProto, update(0, 0))
	s.refuses(bad, api.ErrProto)
	s = met(t, plainConfig, pf(api.PrefMany, 0))
	s.feeds(api.ErrProto, update(0, 0))
	s.refuses(get("/"), api.ErrProto)
	s = plain(t)
	s.feeds(api.OK, away(0, 0, ""))
	s.refuses(bad, api.ErrGone)
	s = met(t, Config{100, api.MaxIds, 5, 5}, pf(api.PrefMany, 1))
	s.opens(get("/"), api.MaxIds)
	s.refuses(bad, api.ErrGone) // and busy
}

func TestManyP1901(t *testing.T) {
	for _, x := range []struct{ many, want int }{{0, 0}, {1, 1}, {2, 2}, {5, 5}, {6, 6}, {7, 6}, {1000, 6}, {1<<32 - 1, 6}} {
		s := met(t, plainConfig, pf(api.PrefMany, x.many))
		for k := range x.want {
			s.stands(k, true, false, api.OK)
			s.opens(get("/"), 2*k+1)
		}
		s.says()
		s.stands(x.want, false, false, api.OK)
		s.refuses(get("/"), api.ErrBusy)
		s.said()
		if x.want > 0 {
			s.answers(api.OK, 1, true, st("200")) // one is over, and makes room
			s.stands(x.want-1, true, false, api.OK)
			s.opens(get("/"), 2*x.want+1)
			s.refuses(get("/"), api.ErrBusy)
		}
	}
}

// Without Settings of the server's there are as many as at first.
func TestManyAtFirstP1901(t *testing.T) {
	s := begun(t, plainConfig)
	for k := range api.MaxOpen {
		s.opens(get("/"), 2*k+1)
	}
	s.refuses(get("/"), api.ErrBusy)
}

// More may be open than may be from now on.
func TestManyBelowWhatIsOpenP1901(t *testing.T) {
	s := plain(t)
	for k := range 4 {
		s.opens(get("/"), 2*k+1)
	}
	s.feeds(api.OK, settings(pf(api.PrefMany, 2)))
	for k, busy := range []int{4, 3, 2} {
		s.stands(busy, false, false, api.OK)
		s.refuses(get("/"), api.ErrBusy)
		s.answers(api.OK, 2*k+1, true, st("200"))
	}
	s.stands(1, true, false, api.OK)
	s.opens(get("/"), 9)
	s.stands(2, false, false, api.OK)
	s.feeds(api.OK, settings(pf(api.PrefMany, 3)))
	s.stands(2, true, false, api.OK)
}

func TestLastNumberP1901(t *testing.T) {
	s := met(t, Config{100, api.MaxIds - 2, 5, 5})
	s.opens(get("/"), api.MaxIds-2)
	s.stands(1, true, false, api.OK)
	s.opens(post("abc"), api.MaxIds)
	s.said(saysHead(api.MaxIds-2, 5, "/"), saysHead(api.MaxIds, 4, "/p"), saysDataEnd(api.MaxIds, "abc"))
	s.stands(2, false, true, api.OK)
	s.refuses(get("/"), api.ErrGone)
	s.said()
	s.answers(api.OK, api.MaxIds, true, st("200")) // those that are open go on
	s.knows(api.MaxIds, Info{Status: 200, Done: true, Over: true})
	s.stands(1, false, true, api.OK)
	s.answers(api.OK, api.MaxIds-2, true, st("404"))
	s.stands(0, false, true, api.OK)
	s.refuses(get("/"), api.ErrGone)
}

func TestBodyAndTrailersP1901(t *testing.T) {
	s := plain(t)
	s.opens(get("/"), 1)
	s.said(saysHead(1, 5, "/"))
	s.opens(post(""), 3)
	s.said(saysHead(3, 5, "/p"))
	s.opens(post("a"), 5)
	s.said(saysHead(5, 4, "/p"), saysDataEnd(5, "a"))
	s.opens(post("", fl("t", "u")), 7)
	s.said(saysHead(7, 4, "/p"), "headers 5 7 t=u")
	s.opens(post("bcd", fl("t", "u"), fl("v", ""), fl("t", "w")), 9)
	s.said(saysHead(9, 4, "/p"), saysData(9, "bcd"), "headers 5 9 t=u v= t=w")
	s.stands(5, true, false, api.OK)
	// All have ended on this side: the answer's end is theirs.
	for id := 1; id <= 9; id += 2 {
		s.answers(api.OK, id, true, st("200"))
		s.knows(id, Info{Status: 200, Done: true, Over: true})
	}
	s.stands(0, true, false, api.OK)
}

// long is a request whose block is longer than a frame, without any field of it being squeezed, or known.
func long() api.Request {
	return get("/", fl("a", of(60, "Q")), fl("b", of(60, "Q")), fl("c", of(60, "Q")), fl("d", of(60, "Q")))
}

func TestBlockLongerThanAFrameP1901(t *testing.T) {
	for _, x := range []struct{ said, most int }{{64, 64}, {65, 65}, {100, 100}, {200, 200}, {512, 512}, {513, 512}, {1<<24 - 1, 512}} {
		s := met(t, plainConfig, pf(api.PrefFrame, x.said))
		r := long()
		l := append([]api.Field{fl(":method", "GET"), fl(":scheme", "http"), fl(":authority", "a"), fl(":path", "/")}, r.Fields...)
		n := len(pack.NewPacker().Pack(l...))
		all := saysHead(1, 0, "/")[len("headers 0 1"):]
		for _, f := range r.Fields {
			all += " " + f.Name + "=" + f.Value
		}
		var want []string
		kind, flags := "headers", 1
		for ; n > x.most; n -= x.most {
			want = append(want, fmt.Sprintf("%s %d 1 +%d", kind, flags, x.most))
			kind, flags = "continue", 0
		}
		want = append(want, fmt.Sprintf("%s %d 1%s", kind, flags|4, all))
		s.opens(r, 1)
		s.said(want...)
	}
}

func TestTrailersLongerThanAFrameP1901(t *testing.T) {
	s := plain(t)
	r := post("abc", long().Fields...)
	s.opens(r, 1)
	said := s.says()
	if len(said) < 5 || said[1] != saysData(1, "abc") || said[2] != "headers 1 1 +64" || said[3] != "continue 0 1 +64" ||
		!strings.HasPrefix(said[len(said)-1], "continue 4 1 a=QQ") {
		t.Errorf("said %q", said)
	}
}

func TestBodyOfMoreThanAFrameP1901(t *testing.T) {
	s := plain(t)
	s.opens(post(of(65, "x")), 1)
	s.said(saysHead(1, 4, "/p"), saysData(1, of(64, "x")), saysDataEnd(1, "x"))
	s = plain(t)
	s.opens(post(of(64, "x")), 1)
	s.said(saysHead(1, 4, "/p"), saysDataEnd(1, of(64, "x")))
	s = met(t, plainConfig, pf(api.PrefFrame, 70))
	s.opens(post(of(80, "x"), fl("t", "u")), 1)
	s.said(saysHead(1, 4, "/p"), saysData(1, of(70, "x")), saysData(1, of(10, "x")), "headers 5 1 t=u")
}

// fours are four hundred bytes that differ, as much as a body may have.
func fours() string {
	b := ""
	for k := range 100 {
		b += fmt.Sprintf("%04d", k)
	}
	return b
}

func TestBodyOfMoreThanTheConnectionMaySendP1901(t *testing.T) {
	s := met(t, plainConfig, pf(api.PrefWindow, 1000))
	b := fours()
	s.opens(post(b), 1)
	s.said(saysHead(1, 4, "/p"), saysData(1, b[:64]), saysData(1, b[64:100]))
	s.feeds(api.OK, update(0, 1))
	s.said(saysData(1, b[100:101]))
	s.feeds(api.OK, update(1, 500))
	s.said()
	s.feeds(api.OK, update(0, 298))
	s.said(saysData(1, b[101:165]), saysData(1, b[165:229]), saysData(1, b[229:293]), saysData(1, b[293:357]), saysData(1, b[357:399]))
	s.feeds(api.OK, update(0, 9))
	s.said(saysDataEnd(1, b[399:]))
	s.opens(post("12345678"), 3) // what was left
	s.said(saysHead(3, 4, "/p"), saysDataEnd(3, "12345678"))
	s.opens(post("1"), 5) // nothing is
	s.said(saysHead(5, 4, "/p"))
}

func TestBodyOfMoreThanTheStreamMaySendP1901(t *testing.T) {
	s := met(t, plainConfig, pf(api.PrefWindow, 10))
	b := fours()
	s.opens(post(b[:30]), 1)
	s.said(saysHead(1, 4, "/p"), saysData(1, b[:10]))
	s.feeds(api.OK, update(0, 1000))
	s.said()
	s.feeds(api.OK, update(1, 3))
	s.said(saysData(1, b[10:13]))
	s.opens(post(b[:10]), 3)
	s.said(saysHead(3, 4, "/p"), saysDataEnd(3, b[:10]))
	s.feeds(api.OK, update(3, 100))
	s.said()
	s.feeds(api.OK, update(1, 18))
	s.said(saysDataEnd(1, b[13:30]) + "")
	s = met(t, plainConfig, pf(api.PrefWindow, 0))
	s.opens(post("ab", fl("t", "u")), 1)
	s.said(saysHead(1, 4, "/p"))
	s.feeds(api.OK, update(1, 1))
	s.said(saysData(1, "a"))
	s.feeds(api.OK, update(1, 1))
	s.said(saysData(1, "b"), "headers 5 1 t=u")
	s.opens(post("", fl("t", "u")), 3) // trailers need no window
	s.said(saysHead(3, 4, "/p"), "headers 5 3 t=u")
}

func TestSeveralThatWaitP1901(t *testing.T) {
	s := met(t, plainConfig, pf(api.PrefWindow, 50))
	a, b, c := of(120, "a"), of(60, "b"), of(40, "c")
	s.opens(post(a, fl("t", "1")), 1)
	s.opens(post(b, fl("t", "2")), 3)
	s.opens(post(c), 5)
	s.opens(post("d", fl("t", "4")), 7)
	s.said(saysHead(1, 4, "/p"), saysData(1, a[:50]), saysHead(3, 4, "/p"), saysData(3, b[:50]), saysHead(5, 4, "/p"), saysHead(7, 4, "/p"))
	// The connection may send more: the least number first, as far as its own window goes.
	s.feeds(api.OK, update(0, 30))
	s.said(saysData(5, c[:30]))
	s.feeds(api.OK, update(1, 10), update(3, 20))
	s.said()
	s.feeds(api.OK, update(0, 15))
	s.said(saysData(1, a[50:60]), saysData(3, b[50:55]))
	s.feeds(api.OK, update(0, 16))
	s.said(saysData(3, b[55:]), "headers 5 3 t=2", saysDataEnd(5, c[30:]), saysData(7, "d"), "headers 5 7 t=4")
	s.feeds(api.OK, update(0, 100))
	s.said()
	s.feeds(api.OK, update(1, 100))
	s.said(saysData(1, a[60:]), "headers 5 1 t=1")
}

// The pump goes through all, whichever Update lets it.
func TestTrailersAheadOfTheNextStreamsP1901(t *testing.T) {
	s := met(t, plainConfig, pf(api.PrefWindow, 0))
	for k := range 4 {
		id := 2*k + 1
		s.opens(post(of(3, string(rune('a'+k))), fl("t", fmt.Sprint(id))), id)
		s.said(saysHead(id, 4, "/p"))
	}
	s.feeds(api.OK, settings(pf(api.PrefWindow, 3)))
	s.said(saysAck,
		saysData(1, "aaa"), "headers 5 1 t=1", saysData(3, "bbb"), "headers 5 3 t=3",
		saysData(5, "ccc"), "headers 5 5 t=5", saysData(7, "ddd"), "headers 5 7 t=7")
}

// An Open lets those ahead of it send first, of which none can send more.
func TestOpenBehindOnesThatWaitP1901(t *testing.T) {
	s := met(t, plainConfig, pf(api.PrefWindow, 20))
	s.opens(post(of(30, "a")), 1)
	s.opens(post("bb"), 3)
	s.said(saysHead(1, 4, "/p"), saysData(1, of(20, "a")), saysHead(3, 4, "/p"), saysDataEnd(3, "bb"))
}

// A table that the server made smaller holds for the next block; behind it nothing is told again.
func TestTableOfTheServersP1901(t *testing.T) {
	for _, x := range []struct{ said, want int }{{0, 0}, {64, 64}, {128, 128}, {200, 200}, {512, 512}, {513, 512}, {1<<32 - 1, 512}} {
		s := plain(t)
		p := pack.NewPacker()
		s.feeds(api.OK, settings(pf(api.PrefTable, 7), pf(api.PrefTable, x.said)))
		s.said(saysAck)
		p.Limit(x.want)
		want := ""
		for k := range 3 {
			s.opens(get("/new"), 2*k+1)
			cut, _ := block.Cut(2*k+1, p.Pack(fl(":method", "GET"), fl(":scheme", "http"), fl(":authority", "a"), fl(":path", "/new")), true, 64)
			want += bytesOfFrames(cut...)
		}
		if got := s.c.Take(1 << 20); got != want {
			t.Errorf("table %d: %q, not %q", x.said, got, want)
		}
	}
}

// Settings without a table leave it as it is, and tell nothing of it.
func TestSettingsWithoutATableP1901(t *testing.T) {
	s := plain(t)
	s.feeds(api.OK, settings(pf(api.PrefTable, 64)))
	s.opens(get("/new"), 1)
	s.says()
	s.feeds(api.OK, settings(pf(api.PrefWindow, 64)), settings())
	s.opens(get("/new"), 3)
	s.c.Take(2 * 9)
	p := pack.NewPacker()
	p.Limit(64)
	l := []api.Field{fl(":method", "GET"), fl(":scheme", "http"), fl(":authority", "a"), fl(":path", "/new")}
	p.Pack(l...)
	cut, _ := block.Cut(3, p.Pack(l...), true, 64)
	if got, want := s.c.Take(1<<20), bytesOfFrames(cut...); got != want {
		t.Errorf("said %q, not %q", got, want)
	}
}

// What is handed in stays, and may be changed behind the call.
func TestWhatIsHandedInP1901(t *testing.T) {
	s := met(t, plainConfig, pf(api.PrefWindow, 2))
	fields, trailers := []api.Field{fl("a", "b"), fl("c", "d")}, []api.Field{fl("t", "u"), fl("v", "w")}
	r := post("abcd", trailers...)
	r.Fields = fields[:1]
	s.opens(r, 1)
	if fields[0] != fl("a", "b") || fields[1] != fl("c", "d") || trailers[0] != fl("t", "u") || trailers[1] != fl("v", "w") {
		t.Errorf("written into: %v, %v", fields, trailers)
	}
	fields[0], trailers[0], trailers[1] = fl("A", ""), fl("B", ""), fl("C", "")
	s.said(saysHead(1, 4, "/p", "a=b"), saysData(1, "ab"))
	s.feeds(api.OK, update(1, 2))
	s.said(saysData(1, "cd"), "headers 5 1 t=u v=w")
	if trailers[0] != fl("B", "") {
		t.Errorf("written into: %v", trailers)
	}
}
