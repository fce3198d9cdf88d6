package world

import (
	"strconv"
	"strings"

	"culvert/api"
	"culvert/prefix"
	"culvert/stamp"
)

// Show tells an event as a line, without the step's number.
func Show(e api.Event) string { return strings.Join(words(e), " ") }

// words are those of an event's line; none, if it has no line.
func words(e api.Event) []string {
	switch e.Kind {
	case api.EvRefused:
		return numbered("refused", e.A, int(e.Code))
	case api.EvDone:
		return numbered("done", e.A)
	case api.EvSent:
		return numbered("sent", e.A, e.Link, e.K)
	case api.EvDelivered:
		return append(numbered("delivered", e.A, e.Link), hex(e.Data))
	case api.EvDropped:
		return numbered("dropped", e.A, int(e.Code))
	case api.EvOpened:
		return numbered("opened", e.A, e.Link)
	case api.EvLost:
		return numbered("lost", e.A)
	case api.EvUp:
		return numbered("up", e.A, e.K)
	case api.EvDown:
		return numbered("down", e.A, e.K, e.M)
	case api.EvNode:
		return numbered("node", e.A, e.K, e.M)
	case api.EvPeer:
		return peerWords(e.A, e.Peer)
	case api.EvLane:
		return laneWords(e.A, e.Lane)
	case api.EvPending:
		return numbered("pending", e.A, e.K)
	case api.EvFlight:
		return append(numbered("flight", e.Flight.No, e.Flight.To), hex(e.Flight.Data))
	}
	return nil
}

// numbered are a name and the numbers behind it.
func numbered(name string, numbers ...int) []string {
	out := []string{name}
	for _, n := range numbers {
		out = append(out, strconv.Itoa(n))
	}
	return out
}

// peerWords: none, if a prefix is not valid.
func peerWords(a int, p api.Peer) []string {
	out := append(numbered("peer", a, p.Link), hex(p.Key))
	for _, x := range p.Prefixes {
		if !prefix.Valid(x) {
			return nil
		}
		out = append(out, prefix.Print(x))
	}
	return out
}

// laneWords: none, if what was seen is no stamp.
func laneWords(a int, l api.Lane) []string {
	if !stamp.Valid(l.Seen) {
		return nil
	}
	out := append(numbered("lane", a), hex(l.Key))
	for _, n := range []int{l.Side, l.Cur, l.Next} {
		out = append(out, strconv.Itoa(n))
	}
	for _, n := range []uint64{l.SendCur, l.Ceil} {
		out = append(out, strconv.FormatUint(n, 10))
	}
	return append(out, stamp.Print(l.Seen))
}

// hex are bytes as one word.
func hex(b []byte) string {
	if len(b) == 0 {
		return "-"
	}
	const digits = "0123456789abcdef"
	out := make([]byte, 0, 2*len(b))
	for _, x := range b {
		out = append(out, digits[x>>4], digits[x&15])
	}
	return string(out)
}
