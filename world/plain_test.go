package world_test

import (
	"fmt"
	"slices"
	"strings"

	"culvert/api"
	"culvert/disk"
	"culvert/node"
	"culvert/store"
)

// The chapter's words by other means: what is under way is a list, all of it is written out in one place, and it stands on real devices and nodes.

type plain struct {
	devices [2]*disk.Disk
	nodes   [2]*node.Node
	under   []api.Flight
	given   int
}

func newPlain(sectors int) *plain {
	var p plain
	for a := range p.devices {
		d := disk.New(sectors)
		if e := store.Format(d); e != api.OK {
			panic(e)
		}
		d.Crash(nil)
		p.devices[a] = d
	}
	return &p
}

func (p *plain) isUp(a int) bool { return p.nodes[a] != nil && !p.nodes[a].Down() }

// lies is the place of a packet among those under way, or -1.
func (p *plain) lies(no int) int {
	return slices.IndexFunc(p.under, func(f api.Flight) bool { return f.No == no })
}

// lay lays a packet into the net: its number, or 0.
func (p *plain) lay(to int, b []byte) int {
	if len(p.under) == maxUnder {
		return 0
	}
	p.given++
	p.under = append(p.under, api.Flight{No: p.given, To: to, Data: slices.Clone(b)})
	return p.given
}

// named are the kinds that have A.
func named(kind int) bool {
	return slices.Contains([]int{api.OpCommit, api.OpSend, api.OpRekey, api.OpTick, api.OpJunk, api.OpArm, api.OpCrash, api.OpBoot, api.OpLook}, kind)
}

func (p *plain) step(op api.Op) []api.Event {
	a := 0
	if named(op.Kind) {
		a = op.A
	}
	refused := func(e api.Errno) []api.Event { return []api.Event{{Kind: api.EvRefused, A: a, Code: e}} }
	switch {
	case op.Kind < 1 || op.Kind > 14:
		return refused(errStep)
	case a != 0 && a != 1:
		return refused(errArg)
	case op.Kind <= api.OpTick && !p.isUp(a):
		return refused(errDown)
	case op.Kind == api.OpJunk && len(op.Data) > maxJunk, op.Kind == api.OpRun && (op.K <= 0 || op.K > maxRun):
		return refused(errArg)
	case op.Kind == api.OpBoot && p.isUp(a):
		return refused(errIsUp)
	case op.Kind >= api.OpGive && op.Kind <= api.OpFlip && p.lies(op.K) < 0:
		return refused(errNoFlight)
	}
	out, e := p.does(op)
	if e != api.OK {
		return refused(e)
	}
	return out
}

// does is a step whose node is there, and whose packet is under way.
func (p *plain) does(op api.Op) (out []api.Event, e api.Errno) {
	out = []api.Event{{Kind: api.EvDone, A: op.A}}
	switch op.Kind {
	case api.OpCommit:
		return out, p.nodes[op.A].Commit(op.Changes)
	case api.OpTick:
		return out, p.nodes[op.A].Tick(op.Stamp)
	case api.OpArm:
		return out, p.devices[op.A].Arm(op.Faults)
	case api.OpSend:
		link, b, e := p.nodes[op.A].Send(op.Data)
		if e != api.OK {
			return nil, e
		}
		return []api.Event{{Kind: api.EvSent, A: op.A, Link: link, K: p.lay(1-op.A, b)}}, api.OK
	case api.OpRekey:
		b, e := p.nodes[op.A].Rekey(op.Link)
		if e != api.OK {
			return nil, e
		}
		return []api.Event{{Kind: api.EvSent, A: op.A, Link: op.Link, K: p.lay(1-op.A, b)}}, api.OK
	case api.OpJunk:
		return []api.Event{{Kind: api.EvSent, A: -1, K: p.lay(op.A, op.Data)}}, api.OK
	case api.OpCrash:
		return p.crash(op), api.OK
	case api.OpBoot:
		n, e := node.Boot(p.devices[op.A], op.Params)
		if e != api.OK {
			return nil, e
		}
		p.nodes[op.A] = n
		return []api.Event{{Kind: api.EvUp, A: op.A, K: n.Boots()}}, api.OK
	case api.OpLook:
		return p.look(op.A), api.OK
	case api.OpRun:
		return p.run(op.K), api.OK
	}
	return p.spoil(op)
}

// spoil does what is done to one packet.
func (p *plain) spoil(op api.Op) ([]api.Event, api.Errno) {
	at := p.lies(op.K)
	f := p.under[at]
	switch op.Kind {
	case api.OpCopy:
		return []api.Event{{Kind: api.EvSent, A: -1, K: p.lay(f.To, f.Data)}}, api.OK
	case api.OpFlip:
		if op.At < 0 || op.At >= len(f.Data) || op.X <= 0 || op.X >= 256 {
			return nil, errArg
		}
		f.Data[op.At] ^= byte(op.X)
		return []api.Event{{Kind: api.EvDone}}, api.OK
	}
	p.under = slices.Delete(p.under, at, at+1)
	if op.Kind == api.OpDrop {
		return []api.Event{{Kind: api.EvDone}}, api.OK
	}
	return []api.Event{p.comes(f)}, api.OK
}

func (p *plain) comes(f api.Flight) api.Event {
	a := f.To
	if !p.isUp(a) {
		return api.Event{Kind: api.EvLost, A: a}
	}
	x, e := p.nodes[a].Take(f.Data)
	switch {
	case e != api.OK:
		return api.Event{Kind: api.EvRefused, A: a, Code: e}
	case x.Kind == api.TkDropped:
		return api.Event{Kind: api.EvDropped, A: a, Code: x.Code}
	case x.Kind == api.TkDelivered:
		return api.Event{Kind: api.EvDelivered, A: a, Link: x.Link, Data: x.Data}
	case x.Kind == api.TkOpened:
		return api.Event{Kind: api.EvOpened, A: a, Link: x.Link}
	}
	return api.Event{Kind: api.EvSent, A: a, Link: x.Link, K: p.lay(1-a, x.Data)}
}

func (p *plain) crash(op api.Op) []api.Event {
	out := api.Event{Kind: api.EvDown, A: op.A}
	for i := range p.devices[op.A].Pending() {
		out.K++
		if i < len(op.Keep) && op.Keep[i] {
			out.M++
		}
	}
	p.nodes[op.A] = nil
	p.devices[op.A].Crash(op.Keep)
	return []api.Event{out}
}

func (p *plain) look(a int) []api.Event {
	up := 0
	if p.isUp(a) {
		up = 1
	}
	out := []api.Event{{Kind: api.EvNode, A: a, K: up, M: p.devices[a].Done()}}
	if up == 1 {
		out = append(out, api.Event{Kind: api.EvUp, A: a, K: p.nodes[a].Boots()})
		for _, x := range p.nodes[a].Peers() {
			out = append(out, api.Event{Kind: api.EvPeer, A: a, Peer: x})
		}
		for _, l := range p.nodes[a].Lanes() {
			out = append(out, api.Event{Kind: api.EvLane, A: a, Lane: l})
		}
	}
	for _, w := range p.devices[a].Pending() {
		out = append(out, api.Event{Kind: api.EvPending, A: a, K: w.Sector})
	}
	for _, f := range p.under {
		if f.To == a {
			out = append(out, api.Event{Kind: api.EvFlight, Flight: api.Flight{No: f.No, To: f.To, Data: slices.Clone(f.Data)}})
		}
	}
	return out
}

func (p *plain) run(rounds int) (out []api.Event) {
	for range rounds {
		last := p.given // what comes meanwhile has a greater number
		for len(p.under) > 0 && p.under[0].No <= last {
			f := p.under[0]
			p.under = slices.Delete(p.under, 0, 1)
			out = append(out, p.comes(f))
		}
	}
	return out
}

// plainShow is an event's line, by the library.
func plainShow(e api.Event) string {
	word := func(b []byte) string {
		if len(b) == 0 {
			return "-"
		}
		return fmt.Sprintf("%x", b)
	}
	switch e.Kind {
	case api.EvRefused:
		return fmt.Sprintf("refused %d %d", e.A, int(e.Code))
	case api.EvDone:
		return fmt.Sprintf("done %d", e.A)
	case api.EvSent:
		return fmt.Sprintf("sent %d %d %d", e.A, e.Link, e.K)
	case api.EvDelivered:
		return fmt.Sprintf("delivered %d %d %s", e.A, e.Link, word(e.Data))
	case api.EvDropped:
		return fmt.Sprintf("dropped %d %d", e.A, int(e.Code))
	case api.EvOpened:
		return fmt.Sprintf("opened %d %d", e.A, e.Link)
	case api.EvLost:
		return fmt.Sprintf("lost %d", e.A)
	case api.EvUp:
		return fmt.Sprintf("up %d %d", e.A, e.K)
	case api.EvDown:
		return fmt.Sprintf("down %d %d %d", e.A, e.K, e.M)
	case api.EvNode:
		return fmt.Sprintf("node %d %d %d", e.A, e.K, e.M)
	case api.EvPeer:
		out := fmt.Sprintf("peer %d %d %s", e.A, e.Peer.Link, word(e.Peer.Key))
		for _, x := range e.Peer.Prefixes {
			p, ok := libraryPrefix(x)
			if !ok {
				return ""
			}
			out += fmt.Sprintf(" %s/%d", p.Addr().StringExpanded(), p.Bits())
		}
		return out
	case api.EvLane:
		l := e.Lane
		if l.Seen.Sec < 0 || l.Seen.Nano < 0 || l.Seen.Nano > maxNano {
			return ""
		}
		return fmt.Sprintf("lane %d %s %d %d %d %d %d %d.%09d", e.A, word(l.Key), l.Side, l.Cur, l.Next, l.SendCur, l.Ceil, l.Seen.Sec, l.Seen.Nano)
	case api.EvPending:
		return fmt.Sprintf("pending %d %d", e.A, e.K)
	case api.EvFlight:
		return fmt.Sprintf("flight %d %d %s", e.Flight.No, e.Flight.To, word(e.Flight.Data))
	}
	return ""
}

// plainRun is the history of steps.
func plainRun(sectors int, ops []api.Op) string {
	var out strings.Builder
	p := newPlain(sectors)
	for i, op := range ops {
		for _, e := range p.step(op) {
			fmt.Fprintf(&out, "%d %s\n", i+1, plainShow(e))
		}
	}
	return out.String()
}

// bare is an event with just those fields that its kind names.
func bare(e api.Event) api.Event {
	out := api.Event{Kind: e.Kind, A: e.A}
	switch e.Kind {
	case api.EvRefused, api.EvDropped:
		out.Code = e.Code
	case api.EvSent:
		out.Link, out.K = e.Link, e.K
	case api.EvDelivered:
		out.Link, out.Data = e.Link, e.Data
	case api.EvOpened:
		out.Link = e.Link
	case api.EvUp, api.EvPending:
		out.K = e.K
	case api.EvDown, api.EvNode:
		out.K, out.M = e.K, e.M
	case api.EvPeer:
		out.Peer = e.Peer
	case api.EvLane:
		out.Lane = e.Lane
	case api.EvFlight:
		out.A, out.Flight = 0, e.Flight
	}
	return out
}
