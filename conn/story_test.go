package conn

import (
	"bywash/api"
	"bywash/frame"
	"bywash/message"
	"bywash/pack"
	"bywash/prefs"
	"bywash/rule"
)

// tale is a stream by the chapter's words.
type tale struct {
	id         int
	left       int // what may be sent on it
	room, owed int // what may be received on it, and what of it is not credited yet
	body       string
	trailers   []api.Field
	weEnded    bool
	theyEnded  bool
	over       bool
	reader     *message.Reader
	waits      string
	err        api.Errno
}

// story is a connection by the chapter's words, one after the other, with nothing of the windows, states, numbers and pieces of the layers below.
type story struct {
	config           Config
	dead             api.Errno
	away, begun      bool
	next             int // the next number
	lets             prefs.Prefs
	packer           *pack.Packer
	unpacker         *pack.Unpacker
	known            map[int]*tale
	left, room, owed int
	in               string
	blockOf          int // whose block is open
	blockEnd         bool
	block            string
	out              string
	taken            int
	ticks, pings     int
	asked            bool
	happened         map[string]int
}

func newStory(c Config, happened map[string]int) *story {
	s := &story{
		config: c, next: c.First, lets: prefs.Prefs{Table: 128, Many: 6, Window: 100, Frame: 64, List: 600},
		packer: pack.NewPacker(), unpacker: pack.NewUnpacker(128), known: map[int]*tale{}, left: 100, room: 100, happened: happened,
	}
	s.out = "PRI * HTTP/2.0\r\n\r\nSM\r\n\r\n"
	s.say(4, 0, 0, "\x00\x02\x00\x00\x00\x00\x00\x04"+four(c.Window)+"\x00\x06"+four(600))
	return s
}

// note counts what happens, so that a test can tell whether it saw enough.
func (s *story) note(what string) { s.happened[what]++ }

func (s *story) say(kind, flags, id int, body string) {
	if s.dead == api.OK {
		s.out += four(len(body))[1:] + string([]byte{byte(kind), byte(flags)}) + four(id) + body
	}
}

func (s *story) sayBlock(id int, end bool, l []api.Field) {
	b := s.packer.Pack(l...)
	kind, flags := 1, 0
	if end {
		flags = 1
	}
	for len(b) > s.lets.Frame {
		s.note("a block in several frames")
		s.say(kind, flags, id, b[:s.lets.Frame])
		b, kind, flags = b[s.lets.Frame:], 9, 0
	}
	s.say(kind, flags|4, id, b)
}

// open tells all streams that are open, by their numbers.
func (s *story) open() []*tale {
	var l []*tale
	for id := s.config.First; id < s.next; id += 2 {
		if x := s.known[id]; x != nil && !x.over {
			l = append(l, x)
		}
	}
	return l
}

func (s *story) gone() bool { return s.away || s.next > api.MaxIds }

func (s *story) can() bool { return s.dead == api.OK && !s.gone() && len(s.open()) < s.lets.Many }

// ends looks whether both sides have ended a stream.
func (s *story) ends(x *tale) {
	if x.weEnded && x.theyEnded {
		x.over = true
	}
}

func (s *story) openRequest(r api.Request) (int, api.Errno) {
	if s.dead != api.OK {
		return 0, s.dead
	}
	if s.gone() {
		s.note("Open: ErrGone")
		return 0, api.ErrGone
	}
	if len(s.open()) >= s.lets.Many {
		s.note("Open: ErrBusy")
		return 0, api.ErrBusy
	}
	l, e := message.Fields(r)
	if e != api.OK {
		s.note("Open: of a wrong request")
		return 0, e
	}
	s.note("Open")
	x := &tale{
		id: s.next, left: s.lets.Window, room: s.config.Window, body: r.Body,
		trailers: append([]api.Field(nil), r.Trailers...), reader: message.New(r.Method),
	}
	s.next += 2
	s.known[x.id] = x
	x.weEnded = r.Body == "" && len(r.Trailers) == 0
	s.sayBlock(x.id, x.weEnded, l)
	s.pump()
	return x.id, api.OK
}

func (s *story) pump() {
	for _, x := range s.open() {
		if x.weEnded {
			continue
		}
		for {
			n := min(len(x.body), x.left, s.left, s.lets.Frame)
			if n <= 0 {
				break
			}
			flags := 0
			if n == len(x.body) && len(x.trailers) == 0 {
				flags, x.weEnded = 1, true
			}
			s.say(0, flags, x.id, x.body[:n])
			x.body, x.left, s.left = x.body[n:], x.left-n, s.left-n
			s.note("Data is sent")
		}
		switch {
		case x.body != "" && s.left == 0:
			s.note("the connection's window holds a body")
		case x.body != "" && x.left < 0:
			s.note("a window below nothing holds a body")
		case x.body != "":
			s.note("a stream's window holds a body")
		case len(x.trailers) > 0:
			s.note("Trailers are sent")
			s.sayBlock(x.id, true, x.trailers)
			x.weEnded = true
		}
		s.ends(x)
	}
}

func (s *story) credit(n int) {
	s.owed += n
	if s.owed >= 50 {
		s.say(8, 0, 0, four(s.owed))
		s.note("the connection is credited")
		s.room, s.owed = s.room+s.owed, 0
	}
}

func (s *story) creditStream(x *tale, n int) {
	x.owed += n
	if x.owed >= max(s.config.Window/2, 1) {
		if !x.over && !x.theyEnded {
			s.say(8, 0, x.id, four(x.owed))
			s.note("a stream is credited")
		} else {
			s.note("a stream is credited behind its end")
		}
		x.room, x.owed = x.room+x.owed, 0
	}
}

func (s *story) fail(x *tale, code int, e api.Errno) {
	s.say(3, 0, x.id, four(code))
	x.over, x.err = true, e
	n := len(x.waits)
	x.waits = ""
	s.credit(n)
}

func (s *story) breaks(code int, e api.Errno) {
	s.say(7, 0, 0, four(0)+four(code))
	for _, x := range s.open() {
		x.over, x.err = true, api.ErrDead
	}
	s.dead = e
}

func (s *story) cancel(id int, e api.Errno) api.Errno {
	x := s.known[id]
	switch {
	case s.dead != api.OK:
		return s.dead
	case x == nil:
		s.note("Cancel: ErrNone")
		return api.ErrNone
	case x.over:
		s.note("Cancel: ErrClosed")
		return api.ErrClosed
	}
	if e == api.OK {
		e = api.ErrCancel
	}
	s.note("Cancel")
	s.fail(x, 8, e)
	return api.OK
}

func (s *story) read(id, n int) (string, api.Errno) {
	x := s.known[id]
	if x == nil {
		s.note("Read: ErrNone")
		return "", api.ErrNone
	}
	if n < 1 {
		s.note("Read of nothing")
		return "", api.OK
	}
	if x.waits == "" {
		s.note("Read where nothing waits")
		return "", x.err
	}
	n = min(n, len(x.waits))
	b := x.waits[:n]
	x.waits = x.waits[n:]
	s.note("Read")
	s.creditStream(x, n)
	s.credit(n)
	return b, api.OK
}

func (s *story) info(id int) (Info, api.Errno) {
	x := s.known[id]
	if x == nil {
		return Info{}, api.ErrNone
	}
	return Info{
		Status: x.reader.Status(), Fields: x.reader.Fields(), Trailers: x.reader.Trailers(),
		Waits: len(x.waits), Done: x.reader.Done(), Over: x.over, Err: x.err,
	}, api.OK
}

func (s *story) forget(id int) bool {
	x := s.known[id]
	if x == nil || !x.over {
		s.note("Forget: false")
		return false
	}
	if x.waits != "" {
		s.note("Forget of what waits")
	}
	s.note("Forget")
	s.credit(len(x.waits))
	delete(s.known, id)
	return true
}

func (s *story) tick() api.Errno {
	if s.dead != api.OK {
		return s.dead
	}
	s.ticks++
	switch {
	case !s.asked && s.ticks == s.config.Every:
		s.ticks, s.asked = 0, true
		s.pings++
		s.say(6, 0, 0, four(0)+four(s.pings))
		s.note("a Ping is sent")
	case s.asked && s.ticks == s.config.Wait:
		s.note("nobody is there")
		s.breaks(0, api.ErrLate)
	}
	return s.dead
}

func (s *story) take(n int) string {
	n = max(0, min(n, len(s.out)-s.taken))
	b := s.out[s.taken : s.taken+n]
	s.taken += n
	return b
}

func (s *story) close() {
	if s.dead == api.OK {
		s.note("Close")
		s.breaks(0, api.ErrClosed)
	}
}

func (s *story) feed(b string) api.Errno {
	if s.dead != api.OK {
		return s.dead
	}
	s.in += b
	for s.dead == api.OK && len(s.in) >= 3 {
		n := int(s.in[0])<<16 | int(s.in[1])<<8 | int(s.in[2])
		if n > 64 {
			s.note("broken: a frame that is too long")
			s.breaks(6, api.ErrSize)
			break
		}
		if len(s.in) < 9+n {
			s.note("a frame in pieces")
			break
		}
		f := api.Frame{Kind: int(s.in[3]), Flags: int(s.in[4]), Id: numberOf(s.in[5:9]) & api.MaxIds, Body: s.in[9 : 9+n]}
		s.in = s.in[9+n:]
		s.got(f)
	}
	return s.dead
}

func numberOf(b string) int { return int(b[0])<<24 | int(b[1])<<16 | int(b[2])<<8 | int(b[3]) }

// got is one frame by the order of the chapter.
func (s *story) got(f api.Frame) {
	if code, e := rule.Check(f); e != api.OK {
		s.note("broken: rule.Check")
		s.breaks(code, e)
		return
	}
	if !s.begun && (f.Kind != 4 || f.Flags&1 != 0) {
		s.note("broken: the first frame")
		s.breaks(1, api.ErrProto)
		return
	}
	s.begun = true
	continues := f.Kind == 9 && f.Id == s.blockOf
	if (s.blockOf != 0 && !continues) || (s.blockOf == 0 && f.Kind == 9) {
		s.note("broken: a frame in a block, or a Continue of none")
		s.breaks(1, api.ErrProto)
		return
	}
	switch f.Kind {
	case 0:
		s.gotData(f)
	case 1, 9:
		s.gotPiece(f)
	case 3:
		s.gotReset(f)
	case 4:
		s.gotSettings(f)
	case 6:
		s.gotPing(f)
	case 7:
		s.note("Away")
		s.away = true
		for _, x := range s.open() {
			if x.id > numberOf(f.Body)&api.MaxIds {
				s.note("a stream that the server did not get")
				x.over, x.err = true, api.ErrGone
			}
		}
	case 8:
		s.gotUpdate(f)
	default:
		s.note("a frame of which nothing comes")
	}
}

// given tells whether a stream's number was; if not, the connection is broken.
func (s *story) given(id int) bool {
	if id >= s.config.First && id < s.next && id%2 == 1 {
		return true
	}
	s.note("broken: a stream that was not given")
	s.breaks(1, api.ErrProto)
	return false
}

func (s *story) gotPiece(f api.Frame) {
	b, _, _ := frame.Strip(f)
	if f.Kind == 1 {
		s.blockOf, s.blockEnd, s.block = f.Id, f.Flags&1 != 0, ""
	} else {
		s.note("Continue")
	}
	s.block += b
	if len(s.block) > 600 {
		s.note("broken: a block that is too long")
		s.breaks(6, api.ErrSize)
		return
	}
	if f.Flags&4 == 0 {
		return
	}
	s.blockOf = 0
	l, e := s.unpacker.Unpack(s.block)
	if e != api.OK {
		s.note("broken: headers that cannot be unpacked")
		s.breaks(9, api.ErrPack)
		return
	}
	if !s.given(f.Id) {
		return
	}
	x := s.known[f.Id]
	if x == nil || x.over {
		s.note("headers of one that is over")
		return
	}
	if x.theyEnded {
		s.note("broken: headers behind the end")
		s.breaks(5, api.ErrClosed)
		return
	}
	x.theyEnded = s.blockEnd
	if e := x.reader.Headers(s.blockEnd, l...); e != api.OK {
		s.note("failed: headers")
		s.fail(x, 1, e)
		return
	}
	s.note("headers")
	s.ends(x)
}

func (s *story) gotData(f api.Frame) {
	if !s.given(f.Id) {
		return
	}
	n := len(f.Body)
	if n > s.room {
		s.note("broken: the connection's window")
		s.breaks(3, api.ErrFlow)
		return
	}
	if n == s.room {
		s.note("all that the connection's window lets")
	}
	s.room -= n
	x := s.known[f.Id]
	if x == nil || x.over {
		s.note("Data of one that is over")
		s.credit(n)
		return
	}
	if x.theyEnded {
		s.note("broken: Data behind the end")
		s.breaks(5, api.ErrClosed)
		return
	}
	x.theyEnded = f.Flags&1 != 0
	if n > x.room {
		s.note("failed: a stream's window")
		s.fail(x, 3, api.ErrFlow)
		s.credit(n)
		return
	}
	if n == x.room {
		s.note("all that a stream's window lets")
	}
	x.room -= n
	b, _, _ := frame.Strip(f)
	if e := x.reader.Data(len(b), x.theyEnded); e != api.OK {
		s.note("failed: Data")
		s.fail(x, 1, e)
		s.credit(n)
		return
	}
	s.note("Data")
	x.waits += b
	s.ends(x)
	if len(b) < n {
		s.note("padding")
	}
	s.creditStream(x, n-len(b))
	s.credit(n - len(b))
}

func (s *story) gotReset(f api.Frame) {
	if !s.given(f.Id) {
		return
	}
	x := s.known[f.Id]
	if x == nil || x.over {
		s.note("Reset of one that is over")
		return
	}
	s.note("Reset")
	x.over = true
	switch code := numberOf(f.Body); {
	case code == 0 && x.reader.Done():
		s.note("Reset behind Done")
	case code == 7:
		x.err = api.ErrRefused
	case code == 8:
		x.err = api.ErrCancel
	default:
		x.err = api.ErrReset
	}
}

func (s *story) gotSettings(f api.Frame) {
	if f.Flags&1 != 0 {
		s.note("an Ack")
		return
	}
	l, _ := prefs.Get(f.Body)
	lets, code, e := prefs.Apply(s.lets, l...)
	if e != api.OK {
		s.note("broken: Settings")
		s.breaks(code, e)
		return
	}
	by := lets.Window - s.lets.Window
	for _, x := range s.open() {
		if x.left+by > api.MaxWindow {
			s.note("broken: Settings of a window")
			s.breaks(3, api.ErrFlow)
			return
		}
		x.left += by
		if x.left < 0 {
			s.note("a window below nothing")
		}
	}
	s.note("Settings")
	s.lets = lets
	for _, p := range l {
		if p.Id == 1 {
			s.packer.Limit(lets.Table)
		}
	}
	s.say(4, 1, 0, "")
	s.pump()
}

func (s *story) gotPing(f api.Frame) {
	if f.Flags&1 == 0 {
		s.note("Ping")
		s.say(6, 1, 0, f.Body)
		return
	}
	if s.asked && f.Body == four(0)+four(s.pings) {
		s.note("a Ping is answered")
		s.asked, s.ticks = false, 0
	}
}

func (s *story) gotUpdate(f api.Frame) {
	n := numberOf(f.Body) & api.MaxWindow
	if f.Id == 0 {
		switch {
		case n == 0:
			s.note("broken: Update of 0")
			s.breaks(1, api.ErrProto)
		case s.left+n > api.MaxWindow:
			s.note("broken: Update of too much")
			s.breaks(3, api.ErrFlow)
		default:
			s.note("Update")
			s.left += n
			s.pump()
		}
		return
	}
	if !s.given(f.Id) {
		return
	}
	x := s.known[f.Id]
	switch {
	case x == nil || x.over:
		s.note("Update of one that is over")
	case n == 0:
		s.note("failed: Update of 0")
		s.fail(x, 1, api.ErrProto)
	case x.left+n > api.MaxWindow:
		s.note("failed: Update of too much")
		s.fail(x, 3, api.ErrFlow)
	default:
		s.note("Update of a stream")
		x.left += n
		s.pump()
	}
}
