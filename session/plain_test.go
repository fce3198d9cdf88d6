package session_test

import (
	"bytes"
	library "crypto/aes"
	"crypto/cipher"
	"encoding/binary"
	"math"
	"math/big"
	"net/netip"
	"slices"

	"culvert/api"
	"culvert/route"
)

// The chapter's words by other means than the package's: the library's GCM, its numbers and its addresses, whole numbers without a bound, all numbers that were ever taken, and a copy of the whole session for each call.

const (
	maxLink    = 4294967295
	maxGen     = 2147483647
	maxCounter = uint64(math.MaxUint64 - 1)
	maxBlock   = 1048576
	maxSec     = math.MaxInt
	maxNano    = 999999999

	pkInit, pkReply, pkData = 1, 2, 3
)

func whole(x uint64) *big.Int { return new(big.Int).SetUint64(x) }

// plainUp is the lesser one of c + block and 2^64 - 1.
func plainUp(c uint64, block int) uint64 {
	sum := new(big.Int).Add(whole(c), big.NewInt(int64(block)))
	if sum.IsUint64() {
		return sum.Uint64()
	}
	return math.MaxUint64
}

func stampOf(sec, nano int) api.Stamp { return api.Stamp{Sec: sec, Nano: nano} }

func greatest() api.Stamp { return stampOf(maxSec, maxNano) }

func isStamp(s api.Stamp) bool { return s.Sec >= 0 && s.Nano >= 0 && s.Nano <= maxNano }

// place is which one in the order of all stamps it is.
func place(s api.Stamp) *big.Int {
	out := new(big.Int).Mul(big.NewInt(int64(s.Sec)), big.NewInt(maxNano+1))
	return out.Add(out, big.NewInt(int64(s.Nano)))
}

func stampAt(n *big.Int) api.Stamp {
	sec, nano := new(big.Int).DivMod(n, big.NewInt(maxNano+1), new(big.Int))
	return stampOf(int(sec.Int64()), int(nano.Int64()))
}

// above is the stamp that is so many places above another one; the nearest one, if there is none.
func above(s api.Stamp, more int64) api.Stamp {
	n := new(big.Int).Add(place(s), big.NewInt(more))
	switch {
	case n.Sign() < 0:
		return api.Stamp{}
	case n.Cmp(place(greatest())) > 0:
		return greatest()
	}
	return stampAt(n)
}

func stampBytes(s api.Stamp) []byte {
	return binary.BigEndian.AppendUint32(binary.BigEndian.AppendUint64(nil, uint64(s.Sec)), uint32(s.Nano))
}

func readStamp(b []byte) (api.Stamp, bool) {
	sec, nano := binary.BigEndian.Uint64(b), binary.BigEndian.Uint32(b[8:])
	return stampOf(int(sec), int(nano)), sec <= maxSec && nano <= maxNano
}

func headOf(kind, link, gen int, counter uint64) api.Head {
	return api.Head{Type: kind, Link: link, Gen: gen, Counter: counter}
}

func headBytes(h api.Head) []byte {
	b := []byte{byte(h.Type), 0, 0, 0}
	b = binary.BigEndian.AppendUint32(b, uint32(h.Link))
	b = binary.BigEndian.AppendUint32(b, uint32(h.Gen))
	return binary.BigEndian.AppendUint64(b, h.Counter)
}

// readHead is the head of a packet whose form may be.
func readHead(b []byte) (api.Head, bool) {
	if len(b) < 20 {
		return api.Head{}, false
	}
	h := headOf(int(b[0]), int(binary.BigEndian.Uint32(b[4:])), int(binary.BigEndian.Uint32(b[8:])), binary.BigEndian.Uint64(b[12:]))
	long := len(b) == 48
	if h.Type == pkData {
		long = len(b) >= 45 && len(b) <= 1316
	}
	ok := h.Type >= 1 && h.Type <= 3 && b[1]|b[2]|b[3] == 0 && h.Link >= 1 && h.Gen >= 1 && h.Gen <= maxGen && h.Counter <= maxCounter
	return h, ok && long
}

func gcmOf(key []byte) cipher.AEAD {
	block, e := library.NewCipher(key)
	if e != nil {
		panic(e)
	}
	mode, e := cipher.NewGCM(block)
	if e != nil {
		panic(e)
	}
	return mode
}

func nonceOf(side int, h api.Head) []byte {
	b := binary.BigEndian.AppendUint32(nil, uint32(side)<<31+uint32(h.Gen))
	return binary.BigEndian.AppendUint64(b, h.Counter)
}

// sealed is a packet; its head and text need not be such as may be.
func sealed(key []byte, side int, h api.Head, text []byte) []byte {
	b := headBytes(h)
	return gcmOf(key).Seal(slices.Clone(b), nonceOf(side, h), text, b)
}

func opened(key []byte, side int, b []byte) ([]byte, bool) {
	h, ok := readHead(b)
	if !ok {
		return nil, false
	}
	text, e := gcmOf(key).Open(nil, nonceOf(side, h), b[20:], b[:20])
	return text, e == nil
}

// sourceOf is the source of a payload; false, if it is none.
func sourceOf(b []byte) (netip.Addr, bool) {
	if len(b) == 0 || len(b) > 1280 || b[0] == 4 && len(b) < 9 || b[0] == 6 && len(b) < 33 {
		return netip.Addr{}, false
	}
	switch b[0] {
	case 4:
		return netip.AddrFrom4([4]byte(b[1:5])), true
	case 6:
		return netip.AddrFrom16([16]byte(b[1:17])), true
	}
	return netip.Addr{}, false
}

// way is a table, with the list that it was made of.
type way struct {
	table *route.Table
	list  []step
}

type step struct {
	prefix netip.Prefix
	link   int
}

func apiPrefix(p netip.Prefix) api.Prefix {
	if p.Addr().Is4() {
		b := p.Addr().As4()
		return api.Prefix{Addr: api.Addr{Family: 4, Lo: uint64(binary.BigEndian.Uint32(b[:]))}, Bits: p.Bits()}
	}
	b := p.Addr().As16()
	return api.Prefix{Addr: api.Addr{Family: 6, Hi: binary.BigEndian.Uint64(b[:]), Lo: binary.BigEndian.Uint64(b[8:])}, Bits: p.Bits()}
}

// to is a way with one prefix more.
func (w way) to(text string, link int) way {
	p := netip.MustParsePrefix(text)
	table, e := w.table.With(apiPrefix(p), link)
	if e != api.OK {
		panic(e)
	}
	return way{table, append(slices.Clone(w.list), step{p, link})}
}

func noWay() way { return way{table: route.New()} }

// finds is the link of the longest prefix that holds an address; 0, if none does.
func (w way) finds(a netip.Addr) int {
	link, bits := 0, -1
	for _, one := range w.list {
		if one.prefix.Contains(a) && one.prefix.Bits() > bits {
			link, bits = one.link, one.prefix.Bits()
		}
	}
	return link
}

func cloned(l api.Lane) api.Lane {
	l.Key = slices.Clone(l.Key)
	return l
}

// plainWindow is a window that never forgets.
type plainWindow struct {
	gen   int
	floor uint64
	taken []uint64
}

func (w plainWindow) top() (uint64, bool) {
	if len(w.taken) == 0 {
		return 0, false
	}
	return slices.Max(w.taken), true
}

func (w plainWindow) takes(c uint64, width int) bool {
	if whole(c).Cmp(whole(w.floor)) < 0 || slices.Contains(w.taken, c) {
		return false
	}
	top, ok := w.top()
	less := new(big.Int).Sub(whole(top), whole(c))
	return !ok || less.Cmp(big.NewInt(int64(width))) < 0
}

// plain is a session.
type plain struct {
	link, block, width int
	lane               api.Lane
	at                 uint64
	windows            []plainWindow // the oldest first, that of Cur last
	openings           []api.Opening // the oldest first
	last               api.Stamp
}

func newPlain(link int, l api.Lane, p api.Params) *plain {
	return &plain{link: link, block: p.Block, width: p.Width, lane: cloned(l), at: l.SendCur, windows: []plainWindow{{gen: l.Cur, floor: l.Ceil}}}
}

func (p *plain) copied() *plain {
	out := *p
	out.lane, out.windows, out.openings = cloned(p.lane), slices.Clone(p.windows), slices.Clone(p.openings)
	for i, w := range p.windows {
		out.windows[i].taken = slices.Clone(w.taken)
	}
	return &out
}

func (p *plain) cur() plainWindow { return p.windows[len(p.windows)-1] }

func (p *plain) view() api.View {
	v := api.View{At: p.at, Floor: p.cur().floor, Last: p.last}
	v.Top, v.HasTop = p.cur().top()
	for _, w := range p.windows[:len(p.windows)-1] {
		v.Olds = append([]int{w.gen}, v.Olds...)
	}
	for _, o := range p.openings {
		v.Openings = append([]api.Opening{o}, v.Openings...)
	}
	return v
}

// answer is all that a call tells: what it answers, and the lanes that it hands to commit.
type answer struct {
	packet  []byte
	taken   api.Taken
	err     api.Errno
	commits []api.Lane
}

func (p *plain) send(payload []byte, refusal api.Errno) answer {
	if _, ok := sourceOf(payload); !ok {
		return answer{err: 203}
	}
	if p.at > maxCounter {
		return answer{err: 205}
	}
	next, a := p.copied(), answer{}
	if p.at == p.lane.SendCur {
		next.lane.SendCur = plainUp(p.at, p.block)
		a.commits = []api.Lane{cloned(next.lane)}
		if refusal != 0 {
			a.err = refusal
			return a
		}
	}
	a.packet = sealed(p.lane.Key, p.lane.Side, headOf(pkData, p.link, p.lane.Cur, p.at), payload)
	next.at++
	*p = *next
	return a
}

func (p *plain) rekey(clock api.Stamp, refusal api.Errno) answer {
	g := max(p.lane.Cur, p.lane.Next) + 1
	switch {
	case !isStamp(clock):
		return answer{err: 207}
	case g > maxGen:
		return answer{err: 168}
	case p.last == greatest():
		return answer{err: 206}
	}
	next := p.copied()
	next.lane.Next = g
	a := answer{commits: []api.Lane{cloned(next.lane)}}
	if refusal != 0 {
		a.err = refusal
		return a
	}
	next.last = clock
	if place(clock).Cmp(place(p.last)) <= 0 {
		next.last = above(p.last, 1)
	}
	next.openings = append(next.openings, api.Opening{Gen: g, Stamp: next.last})
	if len(next.openings) > 4 {
		next.openings = next.openings[1:]
	}
	a.packet = sealed(p.lane.Key, p.lane.Side, headOf(pkInit, p.link, g, 0), stampBytes(next.last))
	*p = *next
	return a
}

// windowOf is the window of a generation.
func (p *plain) windowOf(gen int) (*plainWindow, bool) {
	for i := range p.windows {
		if p.windows[i].gen == gen {
			return &p.windows[i], true
		}
	}
	return nil, false
}

func (p *plain) openingOf(gen int) (api.Opening, bool) {
	for _, o := range p.openings {
		if o.Gen == gen {
			return o, true
		}
	}
	return api.Opening{}, false
}

// code is by what a packet is dropped; 0, if it is taken.
func (p *plain) code(b []byte, w way) api.Errno {
	h, ok := readHead(b)
	if !ok {
		return 210
	}
	if h.Link != p.link {
		return 211
	}
	opening, isOpening := p.openingOf(h.Gen)
	window, isWindow := p.windowOf(h.Gen)
	switch {
	case h.Type == pkInit && h.Gen <= p.lane.Cur:
		return 212
	case h.Type == pkReply && (h.Gen <= p.lane.Cur || !isOpening):
		return 212
	case h.Type == pkData && !isWindow:
		return 212
	case h.Type == pkData && !window.takes(h.Counter, p.width):
		return 213
	}
	text, ok := opened(p.lane.Key, 1-p.lane.Side, b)
	if !ok {
		return 214
	}
	switch h.Type {
	case pkInit:
		if s, ok := readStamp(text); !ok || place(s).Cmp(place(p.lane.Seen)) <= 0 {
			return 215
		}
	case pkReply:
		if s, ok := readStamp(text); !ok || s != opening.Stamp {
			return 215
		}
	case pkData:
		src, ok := sourceOf(text)
		if !ok {
			return 216
		}
		if w.finds(src) != p.link {
			return 217
		}
	}
	return 0
}

func (p *plain) take(b []byte, w way, refusal api.Errno) answer {
	if code := p.code(b, w); code != 0 {
		return answer{taken: api.Taken{Kind: 1, Code: code}}
	}
	h, _ := readHead(b)
	text, _ := opened(p.lane.Key, 1-p.lane.Side, b)
	next, a, commits := p.copied(), answer{}, true
	switch h.Type {
	case pkInit:
		own := uint64(0)
		if h.Gen <= p.lane.Next {
			own = 1
		}
		next.lane.Seen, _ = readStamp(text)
		next.begin(h, own)
		next.at = own + 1
		a.taken = api.Taken{Kind: 3, Link: p.link, Data: sealed(p.lane.Key, p.lane.Side, headOf(pkReply, p.link, h.Gen, own), text)}
	case pkReply:
		next.begin(h, 1)
		next.at = 1
		a.taken = api.Taken{Kind: 4, Link: p.link}
	case pkData:
		commits = h.Gen == p.lane.Cur && h.Counter >= p.lane.Ceil
		if commits {
			next.lane.Ceil = plainUp(h.Counter, p.block)
		}
		w, _ := next.windowOf(h.Gen)
		w.taken = append(w.taken, h.Counter)
		a.taken = api.Taken{Kind: 2, Link: p.link, Data: text}
	}
	if commits && refusal != 0 {
		return answer{err: refusal, commits: []api.Lane{next.lane}}
	}
	if commits {
		a.commits = []api.Lane{cloned(next.lane)}
	}
	*p = *next
	return a
}

// begin puts a packet's generation in force: own is the counter of this side up to which all may have been used.
func (p *plain) begin(h api.Head, own uint64) {
	p.lane.Cur, p.lane.SendCur, p.lane.Ceil = h.Gen, plainUp(own, p.block), plainUp(h.Counter, p.block)
	p.windows = append(p.windows, plainWindow{gen: h.Gen, taken: []uint64{h.Counter}})
	if len(p.windows) > 5 {
		p.windows = p.windows[1:]
	}
	var left []api.Opening
	for _, o := range p.openings {
		if o.Gen > h.Gen {
			left = append(left, o)
		}
	}
	p.openings = left
}

func sameLane(a, b api.Lane) bool {
	return bytes.Equal(a.Key, b.Key) && a.Side == b.Side && a.Cur == b.Cur && a.Next == b.Next && a.SendCur == b.SendCur && a.Ceil == b.Ceil && a.Seen == b.Seen
}

func sameTaken(a, b api.Taken) bool {
	return a.Kind == b.Kind && a.Link == b.Link && a.Code == b.Code && bytes.Equal(a.Data, b.Data)
}

func sameView(a, b api.View) bool {
	return a.At == b.At && a.Floor == b.Floor && a.Top == b.Top && a.HasTop == b.HasTop && a.Last == b.Last && slices.Equal(a.Olds, b.Olds) && slices.Equal(a.Openings, b.Openings)
}

func same(a, b answer) bool {
	return bytes.Equal(a.packet, b.packet) && sameTaken(a.taken, b.taken) && a.err == b.err && slices.EqualFunc(a.commits, b.commits, sameLane)
}
