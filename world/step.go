package world

import (
	"culvert/api"
	"culvert/disk"
	"culvert/net"
	"culvert/node"
)

// parts are what a world consists of, behind its lock.
type parts struct {
	*net.Net // what is under way goes to an end by its number
	ends     [2]end
}

// end is a device, and the node over it.
type end struct {
	*disk.Disk
	node *node.Node // the one that was booted last; nil, if none was since the device crashed
}

func (n end) up() bool { return n.node != nil && !n.node.Down() }

func isNode(a int) bool { return a == 0 || a == 1 }

// What a kind of step wants of its A.
const (
	nothing = iota // the kind has no A
	aNode          // a node's number
	aNodeUp        // the number of a node that is up
)

// kind is a kind of step: what it wants, and what it does where it has that.
type kind struct {
	wants int
	does  func(p *parts, op api.Op) ([]api.Event, api.Errno)
}

func kinds() [api.OpRun + 1]kind {
	return [...]kind{
		api.OpCommit: {aNodeUp, (*parts).commit},
		api.OpSend:   {aNodeUp, (*parts).send},
		api.OpRekey:  {aNodeUp, (*parts).rekey},
		api.OpTick:   {aNodeUp, (*parts).tick},
		api.OpGive:   {nothing, (*parts).give},
		api.OpDrop:   {nothing, (*parts).drop},
		api.OpCopy:   {nothing, (*parts).copy},
		api.OpFlip:   {nothing, (*parts).flip},
		api.OpJunk:   {aNode, (*parts).junk},
		api.OpArm:    {aNode, (*parts).arm},
		api.OpCrash:  {aNode, (*parts).crash},
		api.OpBoot:   {aNode, (*parts).boot},
		api.OpLook:   {aNode, (*parts).look},
		api.OpRun:    {nothing, (*parts).run},
	}
}

// step does a step, and tells what happened.
func (p *parts) step(op api.Op) []api.Event {
	if op.Kind < api.OpCommit || op.Kind > api.OpRun {
		return []api.Event{refused(0, api.ErrStep)}
	}
	k := kinds()[op.Kind]
	if k.wants == nothing {
		op.A = 0 // from here on it is what a refusal tells
	}
	if e := p.judge(k, op.A); e != api.OK {
		return []api.Event{refused(op.A, e)}
	}
	happened, e := k.does(p, op)
	if e != api.OK {
		return []api.Event{refused(op.A, e)}
	}
	return happened
}

// judge asks what a kind of step wants.
func (p *parts) judge(k kind, a int) api.Errno {
	switch {
	case k.wants != nothing && !isNode(a):
		return api.ErrArg
	case k.wants == aNodeUp && !p.ends[a].up():
		return api.ErrDown
	}
	return api.OK
}

func (p *parts) commit(op api.Op) ([]api.Event, api.Errno) {
	return done(op.A, p.ends[op.A].node.Commit(op.Changes))
}

func (p *parts) send(op api.Op) ([]api.Event, api.Errno) {
	link, b, e := p.ends[op.A].node.Send(op.Data)
	if e != api.OK {
		return nil, e
	}
	return one(p.sent(op.A, link, b))
}

func (p *parts) rekey(op api.Op) ([]api.Event, api.Errno) {
	b, e := p.ends[op.A].node.Rekey(op.Link)
	if e != api.OK {
		return nil, e
	}
	return one(p.sent(op.A, op.Link, b))
}

func (p *parts) tick(op api.Op) ([]api.Event, api.Errno) {
	return done(op.A, p.ends[op.A].node.Tick(op.Stamp))
}

func (p *parts) give(op api.Op) ([]api.Event, api.Errno) {
	f, e := p.Take(op.K)
	if e != api.OK {
		return nil, e
	}
	return one(p.come(f))
}

func (p *parts) drop(op api.Op) ([]api.Event, api.Errno) { return done(op.A, p.Drop(op.K)) }

func (p *parts) copy(op api.Op) ([]api.Event, api.Errno) {
	no, e := p.Copy(op.K)
	if e != api.OK {
		return nil, e
	}
	return one(sentByNobody(no))
}

func (p *parts) flip(op api.Op) ([]api.Event, api.Errno) {
	return done(op.A, p.Flip(op.K, op.At, op.X))
}

func (p *parts) junk(op api.Op) ([]api.Event, api.Errno) {
	if len(op.Data) > api.MaxJunk {
		return nil, api.ErrArg
	}
	return one(sentByNobody(p.Send(op.A, op.Data)))
}

func (p *parts) arm(op api.Op) ([]api.Event, api.Errno) {
	return done(op.A, p.ends[op.A].Arm(op.Faults))
}

func (p *parts) crash(op api.Op) ([]api.Event, api.Errno) {
	n := &p.ends[op.A]
	pended := len(n.Pending())
	n.Crash(op.Keep)
	n.node = nil
	return one(api.Event{Kind: api.EvDown, A: op.A, K: pended, M: kept(op.Keep, pended)})
}

// kept tells how many of so many writes a crash keeps.
func kept(keep []bool, pended int) int {
	count := 0
	for _, survives := range keep[:min(len(keep), pended)] {
		if survives {
			count++
		}
	}
	return count
}

func (p *parts) boot(op api.Op) ([]api.Event, api.Errno) {
	n := &p.ends[op.A]
	if n.up() {
		return nil, api.ErrIsUp
	}
	booted, e := node.Boot(n.Disk, op.Params)
	if e != api.OK {
		return nil, e
	}
	n.node = booted
	return one(n.lives(op.A))
}

// lives tells that a node is up.
func (n end) lives(a int) api.Event {
	return api.Event{Kind: api.EvUp, A: a, K: n.node.Boots()}
}

func (p *parts) run(op api.Op) ([]api.Event, api.Errno) {
	if op.K < 1 || op.K > api.MaxRun {
		return nil, api.ErrArg
	}
	var all []api.Event
	for range op.K {
		for _, f := range p.Under() {
			happened, _ := p.give(api.Op{K: f.No}) // no error: no give takes another one's packet
			all = append(all, happened...)
		}
	}
	return all, api.OK
}

// sent lets what a node has made be under way to the other one.
func (p *parts) sent(a, link int, b []byte) api.Event {
	return api.Event{Kind: api.EvSent, A: a, Link: link, K: p.Send(1-a, b)}
}

func sentByNobody(no int) api.Event { return api.Event{Kind: api.EvSent, A: -1, K: no} }

// come is what happens where a packet has come to.
func (p *parts) come(f api.Flight) api.Event {
	n := p.ends[f.To]
	if !n.up() {
		return api.Event{Kind: api.EvLost, A: f.To}
	}
	x, e := n.node.Take(f.Data)
	if e != api.OK {
		return refused(f.To, e)
	}
	switch x.Kind {
	case api.TkDelivered:
		return api.Event{Kind: api.EvDelivered, A: f.To, Link: x.Link, Data: x.Data}
	case api.TkAnswered:
		return p.sent(f.To, x.Link, x.Data)
	case api.TkOpened:
		return api.Event{Kind: api.EvOpened, A: f.To, Link: x.Link}
	}
	return api.Event{Kind: api.EvDropped, A: f.To, Code: x.Code}
}

func refused(a int, e api.Errno) api.Event {
	return api.Event{Kind: api.EvRefused, A: a, Code: e}
}

// done tells that a step was done, if there is no error.
func done(a int, e api.Errno) ([]api.Event, api.Errno) {
	if e != api.OK {
		return nil, e
	}
	return one(api.Event{Kind: api.EvDone, A: a})
}

func one(happened api.Event) ([]api.Event, api.Errno) { return []api.Event{happened}, api.OK }
