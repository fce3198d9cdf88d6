package session

import (
	"bytes"
	"slices"

	"culvert/api"
	"culvert/lane"
	"culvert/packet"
	"culvert/route"
	"culvert/stamp"
	"culvert/window"
)

// rule is one thing that a packet must meet; else it is dropped with the code.
type rule struct {
	met  func() bool
	code api.Errno
}

// known is what is known of a packet so far: its head, and what the rules have found that were met. What its type does not have stays zero.
type known struct {
	api.Head
	opening api.Opening    // that a reply answers
	window  *window.Window // of data's generation
	text    []byte
	stamp   api.Stamp // of an init
	payload api.Payload
}

// Take takes a packet; by the table its source must be this peer's.
func (s *Session) Take(b []byte, t *route.Table, commit func(api.Lane) api.Errno) (api.Taken, api.Errno) {
	var k known
	for _, r := range s.rules(b, t, &k) {
		if !r.met() {
			return api.Taken{Kind: api.TkDropped, Code: r.code}, api.OK
		}
	}
	switch k.Type {
	case api.PkInit:
		return s.answer(k, commit)
	case api.PkReply:
		return s.open(k, commit)
	}
	return s.deliver(k, commit)
}

// rules are what a packet of b's type must meet, in order. A rule leans on those ahead of it: where it is asked, they were met.
func (s *Session) rules(b []byte, t *route.Table, k *known) []rule {
	head, refusal := packet.GetHead(b)
	k.Head = head

	form := rule{func() bool { return refusal == api.OK }, api.DropForm}
	link := rule{func() bool { return k.Link == s.link }, api.DropPeer}

	newer := rule{func() bool { return k.Gen > s.lane.Cur }, api.DropGen}
	opened := rule{func() (ok bool) { k.opening, ok = s.opening(k.Gen); return ok }, api.DropGen}
	received := rule{func() bool { k.window = s.window(k.Gen); return k.window != nil }, api.DropGen}
	counter := rule{func() bool { return k.window.Takes(k.Counter) }, api.DropReplay}

	seal := rule{func() bool {
		p, ok := packet.Open(s.lane.Key, 1-s.lane.Side, b)
		k.text = p.Text
		return ok
	}, api.DropSeal}

	later := rule{func() bool {
		var e api.Errno
		k.stamp, e = stamp.Get(k.text)
		return e == api.OK && stamp.Less(s.lane.Seen, k.stamp)
	}, api.DropStamp}
	same := rule{func() bool { return bytes.Equal(k.text, stamp.Put(k.opening.Stamp)) }, api.DropStamp}

	payload := rule{func() bool {
		var e api.Errno
		k.payload, e = packet.GetPayload(k.text)
		return e == api.OK
	}, api.DropPayload}
	source := rule{func() bool {
		found, ok := t.Find(k.payload.Src)
		return ok && found == s.link
	}, api.DropSource}

	switch k.Type {
	case api.PkInit:
		return []rule{form, link, newer, seal, later}
	case api.PkReply:
		return []rule{form, link, newer, opened, seal, same}
	case api.PkData:
		return []rule{form, link, received, counter, seal, payload, source}
	}
	return []rule{form}
}

// opening is the opening of a generation.
func (s *Session) opening(gen int) (api.Opening, bool) {
	i := slices.IndexFunc(s.openings, func(o api.Opening) bool { return o.Gen == gen })
	if i < 0 {
		return api.Opening{}, false
	}
	return s.openings[i], true
}

// window is the window of a generation; nil, if there is none.
func (s *Session) window(gen int) *window.Window {
	i := slices.IndexFunc(s.windows, func(w genWindow) bool { return w.gen == gen })
	if i < 0 {
		return nil
	}
	return s.windows[i].Window
}

// answer takes an init.
func (s *Session) answer(k known, commit func(api.Lane) api.Errno) (api.Taken, api.Errno) {
	answered, own := lane.Answered(s.lane, k.Gen, k.Counter, k.stamp, s.params.Block)
	if e := s.commit(answered, commit); e != api.OK {
		return api.Taken{}, e
	}
	s.begin(k.Head, own+1)
	reply := s.sealed(api.PkReply, k.Gen, own, stamp.Put(k.stamp))
	return api.Taken{Kind: api.TkAnswered, Link: s.link, Data: reply}, api.OK
}

// open takes a reply.
func (s *Session) open(k known, commit func(api.Lane) api.Errno) (api.Taken, api.Errno) {
	if e := s.commit(lane.Opened(s.lane, k.Gen, k.Counter, s.params.Block), commit); e != api.OK {
		return api.Taken{}, e
	}
	// This side's init had the counter 0.
	s.begin(k.Head, 1)
	return api.Taken{Kind: api.TkOpened, Link: s.link}, api.OK
}

// begin puts the generation of a packet that was taken in force; at is the next counter of this side.
func (s *Session) begin(h api.Head, at uint64) {
	w := window.New(0, s.params.Width)
	w.Mark(h.Counter)
	s.windows = pushed(genWindow{w, h.Gen}, s.windows, 1+api.MaxOld)
	s.openings = slices.DeleteFunc(s.openings, func(o api.Opening) bool { return o.Gen <= h.Gen })
	s.at = at
}

// deliver takes data.
func (s *Session) deliver(k known, commit func(api.Lane) api.Errno) (api.Taken, api.Errno) {
	// The ceiling is that of Cur: older windows go with the session, and nothing of their generations is taken behind it.
	if k.Gen == s.lane.Cur && k.Counter >= s.lane.Ceil {
		if e := s.commit(lane.Raise(s.lane, k.Counter, s.params.Block), commit); e != api.OK {
			return api.Taken{}, e
		}
	}
	k.window.Mark(k.Counter)
	return api.Taken{Kind: api.TkDelivered, Link: s.link, Data: k.text}, api.OK
}
