package world_test

import (
	"bytes"
	library "crypto/aes"
	"crypto/cipher"
	"encoding/binary"
	"encoding/hex"
	"fmt"
	"math"
	"net/netip"
	"regexp"
	"slices"
	"strings"
	"testing"

	"culvert/api"
	"culvert/script"
)

// What the tests are made of: keys, payloads, packets sealed by the library, and steps, most of them written as a script has them.

const (
	maxUnder   = 1024
	maxJunk    = 2048
	maxRun     = 100
	maxLink    = 4294967295
	maxGen     = 2147483647
	maxCounter = uint64(math.MaxUint64 - 1)
	maxSec     = math.MaxInt
	maxNano    = 999999999

	pkInit, pkReply, pkData = 1, 2, 3

	errArg, errDown, errDevice, errNoFlight, errIsUp, errStep = 2, 200, 201, 218, 230, 231
)

// key is one of many; they rise with their numbers.
func key(n int) []byte {
	b := bytes.Repeat([]byte{byte(n)}, 32)
	b[31] ^= 0x55
	return b
}

func pre(text string) api.Prefix {
	p := netip.MustParsePrefix(text)
	if p.Addr().Is4() {
		b := p.Addr().As4()
		return api.Prefix{Addr: api.Addr{Family: 4, Lo: uint64(binary.BigEndian.Uint32(b[:]))}, Bits: p.Bits()}
	}
	b := p.Addr().As16()
	return api.Prefix{Addr: api.Addr{Family: 6, Hi: binary.BigEndian.Uint64(b[:]), Lo: binary.BigEndian.Uint64(b[8:])}, Bits: p.Bits()}
}

// libraryPrefix is a prefix as the library has it; false, if it is not valid.
func libraryPrefix(p api.Prefix) (netip.Prefix, bool) {
	var a netip.Addr
	switch {
	case p.Addr.Family == 4 && p.Addr.Hi == 0 && p.Addr.Lo <= math.MaxUint32:
		a = netip.AddrFrom4([4]byte(binary.BigEndian.AppendUint32(nil, uint32(p.Addr.Lo))))
	case p.Addr.Family == 6:
		a = netip.AddrFrom16([16]byte(binary.BigEndian.AppendUint64(binary.BigEndian.AppendUint64(nil, p.Addr.Hi), p.Addr.Lo)))
	default:
		return netip.Prefix{}, false
	}
	out := netip.PrefixFrom(a, p.Bits)
	return out, out.IsValid() && out == out.Masked()
}

// pay is a payload from one address to another.
func pay(src, dst, body string) []byte {
	from, to := netip.MustParseAddr(src), netip.MustParseAddr(dst)
	b := []byte{6}
	if from.Is4() {
		b[0] = 4
	}
	return slices.Concat(b, from.AsSlice(), to.AsSlice(), []byte(body))
}

// sourceOf is where a payload comes from.
func sourceOf(b []byte) netip.Addr {
	size := map[byte]int{4: 4, 6: 16}[b[0]]
	a, _ := netip.AddrFromSlice(b[1 : 1+size])
	return a
}

func stampOf(sec, nano int) api.Stamp { return api.Stamp{Sec: sec, Nano: nano} }

func less(a, b api.Stamp) bool { return a.Sec < b.Sec || a.Sec == b.Sec && a.Nano < b.Nano }

func stampBytes(s api.Stamp) []byte {
	return binary.BigEndian.AppendUint32(binary.BigEndian.AppendUint64(nil, uint64(s.Sec)), uint32(s.Nano))
}

func readStamp(b []byte) api.Stamp {
	return stampOf(int(binary.BigEndian.Uint64(b)), int(binary.BigEndian.Uint32(b[8:])))
}

func headOf(kind, link, gen int, counter uint64) api.Head {
	return api.Head{Type: kind, Link: link, Gen: gen, Counter: counter}
}

func headBytes(h api.Head) []byte {
	b := []byte{byte(h.Type), 0, 0, 0}
	b = binary.BigEndian.AppendUint32(b, uint32(h.Link))
	b = binary.BigEndian.AppendUint32(b, uint32(h.Gen))
	return binary.BigEndian.AppendUint64(b, h.Counter)
}

func readHead(b []byte) (h api.Head, ok bool) {
	if len(b) < 36 {
		return
	}
	return headOf(int(b[0]), int(binary.BigEndian.Uint32(b[4:])), int(binary.BigEndian.Uint32(b[8:])), binary.BigEndian.Uint64(b[12:])), true
}

func gcmOf(key []byte) cipher.AEAD {
	block, e := library.NewCipher(key)
	if e != nil {
		panic(e)
	}
	mode, e := cipher.NewGCM(block)
	if e != nil {
		panic(e)
	}
	return mode
}

func nonceOf(side int, h api.Head) []byte {
	b := binary.BigEndian.AppendUint32(nil, uint32(side)<<31+uint32(h.Gen))
	return binary.BigEndian.AppendUint64(b, h.Counter)
}

// sealed is a packet.
func sealed(key []byte, side int, h api.Head, text []byte) []byte {
	b := headBytes(h)
	return gcmOf(key).Seal(slices.Clone(b), nonceOf(side, h), text, b)
}

func opened(key []byte, side int, b []byte) ([]byte, bool) {
	h, ok := readHead(b)
	if !ok {
		return nil, false
	}
	text, e := gcmOf(key).Open(nil, nonceOf(side, h), b[20:], b[:20])
	return text, e == nil
}

// steps are those of a script's lines. K1 is key(1) in them, and pay:SRC>DST:BODY a payload.
func steps(t *testing.T, lines ...string) []api.Op {
	t.Helper()
	s, line, e := script.Parse("culvert 64\n" + spelt(lines...))
	if e != api.OK || len(s.Ops) != len(lines) {
		t.Fatalf("%q are no steps: the line %d, %d", lines, line, e)
	}
	return s.Ops
}

// spelt are lines with their keys and payloads as bytes, a newline behind each.
func spelt(lines ...string) string {
	text := ""
	for _, l := range lines {
		text += l + "\n"
	}
	text = regexp.MustCompile(`\bK[0-9]+\b`).ReplaceAllStringFunc(text, func(word string) string {
		n := 0
		fmt.Sscanf(word, "K%d", &n)
		return hex.EncodeToString(key(n))
	})
	return regexp.MustCompile(`pay:(\S*)>(\S*?):(\w*)`).ReplaceAllStringFunc(text, func(word string) string {
		src, rest, _ := strings.Cut(strings.TrimPrefix(word, "pay:"), ">")
		dst, body, _ := strings.Cut(rest, ":")
		return hex.EncodeToString(pay(src, dst, body))
	})
}

func junk(a int, b []byte) api.Op { return api.Op{Kind: api.OpJunk, A: a, Data: b} }

func sendOf(a int, b []byte) api.Op { return api.Op{Kind: api.OpSend, A: a, Data: b} }

func give(no int) api.Op { return api.Op{Kind: api.OpGive, K: no} }

func commitOf(a int, l ...api.Change) api.Op {
	return api.Op{Kind: api.OpCommit, A: a, Changes: l}
}

// there is a payload that node 0 sends to node 1 in a tunnel, back one the other way.
const (
	there = "pay:10.0.0.1>10.1.0.1:hi"
	back  = "pay:10.1.0.1>10.0.0.1:ok"
)

// tunnel are steps that lay a tunnel: the link 7 with key(1), node 0 having its side 0.
func tunnel() []string {
	return []string{"boot 0 4 64", "boot 1 4 64", "commit 0 add 7 K1 0 , allow 7 10.1.0.0/16", "commit 1 add 7 K1 1 , allow 7 10.0.0.0/16"}
}
