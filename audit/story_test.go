package audit

import (
	"strings"

	"bywash/api"
	"bywash/conn"
	"bywash/field"
	"bywash/frame"
	"bywash/pack"
	"bywash/prefs"
	"bywash/rule"
)

// story is all that both sides said; what is asked of it is told from its beginning each time, by the chapter's words.
type story struct {
	bytes string // all that the client said
	cut   int    // so many of them are in the log
	log   []event
	un    *pack.Unpacker
	lists map[int][][]api.Field // of each stream the lists that came whole
	wrong api.Errno
	why   string
}

// event is a frame that one of the sides said.
type event struct {
	client bool
	f      api.Frame
}

func newStory() *story {
	return &story{un: pack.NewUnpacker(api.MaxTable), lists: map[int][][]api.Field{}}
}

// server is a frame that the client has got.
func (s *story) server(f api.Frame) {
	if _, e := rule.Check(f); e == api.OK {
		s.log = append(s.log, event{false, f})
	}
}

// client is a piece of what the client said.
func (s *story) client(b string) api.Errno {
	if s.wrong != api.OK {
		return s.wrong
	}
	s.bytes += b
	if n := min(len(s.bytes), len(conn.Preface)); s.bytes[:n] != conn.Preface[:n] {
		s.wrong, s.why = api.ErrForm, "the Preface"
		return s.wrong
	}
	s.cut = max(s.cut, min(len(s.bytes), len(conn.Preface)))
	for s.wrong == api.OK && len(s.bytes)-s.cut >= 3 {
		b := s.bytes[s.cut:]
		n := int(b[0])<<16 + int(b[1])<<8 + int(b[2])
		if n > s.most(func(p prefs.Prefs) int { return p.Frame }) {
			s.wrong, s.why = api.ErrSize, "a frame that is too long"
			break
		}
		if len(b) < 9+n {
			break
		}
		f := api.Frame{Kind: int(b[3]), Flags: int(b[4]), Id: numberOf(b[5:9]) % (1 << 31), Body: b[9 : 9+n]}
		s.wrong, s.why = s.judge(f)
		s.log = append(s.log, event{true, f})
		s.cut += 9 + n
	}
	return s.wrong
}

func numberOf(b string) int { return int(b[0])<<24 + int(b[1])<<16 + int(b[2])<<8 + int(b[3]) }

// held tells how many bytes wait.
func (s *story) held() int {
	if len(s.bytes) < len(conn.Preface) {
		return len(s.bytes)
	}
	return len(s.bytes) - s.cut
}

// settings tells those of the server that counted among the first events, in order: each as it is behind those ahead of it.
func (s *story) settings(log []event) []prefs.Prefs {
	p := prefs.First()
	var l []prefs.Prefs
	for _, x := range log {
		if x.client || x.f.Kind != api.Settings || x.f.Flags&api.Ack != 0 {
			continue
		}
		said, _ := prefs.Get(x.f.Body)
		if next, _, e := prefs.Apply(p, said...); e == api.OK {
			p = next
			l = append(l, p)
		}
	}
	return l
}

// window tells what the server's Settings say of a stream's window, of the first events.
func (s *story) window(log []event) int {
	if l := s.settings(log); len(l) > 0 {
		return l[len(l)-1].Window
	}
	return api.FirstWindow
}

// acks tells how many Acks the client said.
func (s *story) acks() int {
	n := 0
	for _, x := range s.log {
		if x.client && x.f.Kind == api.Settings && x.f.Flags&api.Ack != 0 {
			n++
		}
	}
	return n
}

// most tells the greatest of what may be in force.
func (s *story) most(of func(p prefs.Prefs) int) int {
	l := append([]prefs.Prefs{prefs.First()}, s.settings(s.log)...)
	most := 0
	for _, p := range l[s.acks():] {
		most = max(most, of(p))
	}
	return most
}

// life is what became of a stream.
type life struct {
	opened, weEnded, theyEnded, reset bool
	left, size                        int
}

func (x life) closed() bool { return x.reset || x.weEnded && x.theyEnded }
func (x life) writes() bool { return x.opened && !x.reset && !x.weEnded }

func (s *story) life(id int) life {
	var x life
	heads, whose := 0, 0
	for i, e := range s.log {
		f, end := e.f, e.f.Flags&api.End != 0
		if e.client && f.Kind == api.Headers {
			whose = f.Id
			if f.Id == id {
				heads++
			}
		}
		if e.client && f.Id == id && heads == 1 && !x.opened {
			w := s.window(s.log[:i])
			x = life{opened: true, weEnded: end, left: w, size: w}
		}
		if !x.opened {
			continue
		}
		switch {
		case f.Kind == api.Settings && !e.client:
			x.shift(s.window(s.log[:i+1]) - s.window(s.log[:i]))
		case f.Id != id:
		case f.Kind == api.Reset:
			x.reset = true
		case e.client && (f.Kind == api.Headers || f.Kind == api.Continue):
			if whose == id && heads == 2 && f.Flags&api.Whole != 0 {
				x.weEnded = true
			}
		case e.client && f.Kind == api.Data:
			x.left -= len(f.Body)
			x.weEnded = x.weEnded || end
		case !e.client && (f.Kind == api.Headers || f.Kind == api.Data):
			x.theyEnded = x.theyEnded || end
		case !e.client && f.Kind == api.Update:
			x.left = grows(x.left, f)
		}
	}
	return x
}

func (x *life) shift(by int) {
	if x.size+by >= 0 && x.size+by <= api.MaxWindow && x.left+by <= api.MaxWindow {
		x.left, x.size = x.left+by, x.size+by
	}
}

// grows tells what may be sent behind an Update.
func grows(left int, f api.Frame) int {
	n := numberOf(f.Body) % (1 << 31)
	if left+n > api.MaxWindow {
		return left
	}
	return left + n
}

// left tells what may be sent on the connection.
func (s *story) left() int {
	left := api.FirstWindow
	for _, e := range s.log {
		switch {
		case e.client && e.f.Kind == api.Data:
			left -= len(e.f.Body)
		case !e.client && e.f.Kind == api.Update && e.f.Id == 0:
			left = grows(left, e.f)
		}
	}
	return left
}

// opened tells the streams, in order.
func (s *story) opened() []int {
	var l []int
	is := map[int]bool{}
	for _, e := range s.log {
		if e.client && e.f.Kind == api.Headers && !is[e.f.Id] {
			is[e.f.Id] = true
			l = append(l, e.f.Id)
		}
	}
	return l
}

// open tells those that are.
func (s *story) open() []int {
	var l []int
	for _, id := range s.opened() {
		if !s.life(id).closed() {
			l = append(l, id)
		}
	}
	return l
}

// asked tells what came on a stream.
func (s *story) asked(id int) ([]api.Field, string, []api.Field, bool) {
	if !s.life(id).opened {
		return nil, "", nil, false
	}
	lists := append(s.lists[id][:len(s.lists[id]):len(s.lists[id])], nil, nil)
	body := ""
	for _, e := range s.log {
		if e.client && e.f.Kind == api.Data && e.f.Id == id {
			b, _, _ := frame.Strip(e.f)
			body += b
		}
	}
	return lists[0], body, lists[1], true
}

// block tells whose block is open, and what came of it.
func (s *story) block() (int, string) {
	id, held := 0, ""
	for _, e := range s.log {
		if !e.client || e.f.Kind != api.Headers && e.f.Kind != api.Continue {
			continue
		}
		b, _, _ := frame.Strip(e.f)
		id, held = e.f.Id, held+b
		if e.f.Flags&api.Whole != 0 {
			id, held = 0, ""
		}
	}
	return id, held
}

// judge tells the first rule that a frame of the client's breaks, and in words which it is.
func (s *story) judge(f api.Frame) (api.Errno, string) {
	first := true
	for _, e := range s.log {
		first = first && !e.client
	}
	if first && (f.Kind != api.Settings || f.Flags&api.Ack != 0) {
		return api.ErrOrder, "the first frame"
	}
	if _, e := rule.Check(f); e != api.OK {
		return api.ErrProto, "rule.Check"
	}
	id, held := s.block()
	if id != 0 && (f.Kind != api.Continue || f.Id != id) {
		return api.ErrProto, "a frame in a block"
	}
	if id == 0 && f.Kind == api.Continue {
		return api.ErrProto, "a Continue alone"
	}
	switch f.Kind {
	case api.Headers:
		if why := s.judgeHeaders(f); why != "" {
			return api.ErrProto, why
		}
		b, _, _ := frame.Strip(f)
		return s.judgeBlock(f, b)
	case api.Continue:
		return s.judgeBlock(f, held+f.Body)
	case api.Settings:
		if f.Flags&api.Ack != 0 && s.acks() == len(s.settings(s.log)) {
			return api.ErrProto, "an Ack of nothing"
		}
	case api.Data:
		return s.judgeData(f)
	case api.Reset, api.Update:
		if f.Id != 0 && !s.life(f.Id).opened {
			return api.ErrClosed, "not given: " + frame.Name(f.Kind)
		}
	}
	return api.OK, ""
}

func (s *story) judgeHeaders(f api.Frame) string {
	x := s.life(f.Id)
	switch {
	case x.opened && !x.writes():
		return "headers of one that may not write"
	case x.opened && f.Flags&api.End == 0:
		return "trailers without End"
	case x.opened:
		return ""
	case f.Id%2 == 0:
		return "an even number"
	case len(s.open()) >= s.most(func(p prefs.Prefs) int { return p.Many }):
		return "too many streams"
	}
	for _, id := range s.opened() {
		if id > f.Id {
			return "a number that falls"
		}
	}
	return ""
}

func (s *story) judgeBlock(f api.Frame, b string) (api.Errno, string) {
	if f.Flags&api.Whole == 0 {
		return api.OK, ""
	}
	l, e := s.un.Unpack(b)
	asked := len(s.lists[f.Id]) == 0
	s.lists[f.Id] = append(s.lists[f.Id], l)
	what := "trailers"
	if asked {
		what = "a request"
	}
	switch {
	case e != api.OK:
		return api.ErrPack, "cannot be unpacked: " + what
	case asked && field.Request(l...) != api.OK, !asked && field.Trailers(l...) != api.OK:
		return api.ErrName, "may not be: " + what
	}
	return api.OK, ""
}

func (s *story) judgeData(f api.Frame) (api.Errno, string) {
	x := s.life(f.Id)
	switch {
	case len(f.Body) > s.left():
		return api.ErrFlow, "the connection's window"
	case !x.opened:
		return api.ErrClosed, "not given: data"
	case !x.writes():
		return api.ErrClosed, "Data of one that may not write"
	case len(f.Body) > x.left:
		return api.ErrFlow, "a stream's window"
	}
	return api.OK, ""
}

// words tells all of it that an auditor tells, too.
func (s *story) words() string {
	w := strings.Builder{}
	opened := s.opened()
	say(&w, opened, len(s.open()), s.held())
	for _, id := range append([]int{0, 2, 999}, opened...) {
		l, b, m, is := s.asked(id)
		say(&w, l, b, m, is)
	}
	return w.String()
}
