package config_test

import (
	"bytes"
	"fmt"
	"slices"
	"strings"
	"testing"

	"culvert/api"
	"culvert/config"
)

// judge is the call, what it answers put together.
func judge(was conf, l ...api.Change) (conf, int, api.Errno) {
	peers, lanes, at, e := config.Judge(was.peers, was.lanes, l)
	return conf{peers, lanes}, at, e
}

// Of all lists nil and the empty one are the same.

func samePeer(a, b api.Peer) bool {
	return a.Link == b.Link && bytes.Equal(a.Key, b.Key) && slices.Equal(a.Prefixes, b.Prefixes)
}

func sameLane(a, b api.Lane) bool {
	return bytes.Equal(a.Key, b.Key) && a.Side == b.Side && a.Cur == b.Cur && a.Next == b.Next && a.SendCur == b.SendCur && a.Ceil == b.Ceil && a.Seen == b.Seen
}

func same(a, b conf) bool {
	return slices.EqualFunc(a.peers, b.peers, samePeer) && slices.EqualFunc(a.lanes, b.lanes, sameLane)
}

func toldKey(k []byte) string {
	if len(k) > 4 {
		return fmt.Sprintf("%x..(%d)", k[:4], len(k))
	}
	return fmt.Sprintf("%x(%d)", k, len(k))
}

func told(c conf) string {
	var out []string
	for _, p := range c.peers {
		out = append(out, fmt.Sprintf("peer %d %s %v", p.Link, toldKey(p.Key), p.Prefixes))
	}
	for _, l := range c.lanes {
		out = append(out, fmt.Sprintf("lane %s side %d cur %d next %d sendCur %d ceil %d seen %v", toldKey(l.Key), l.Side, l.Cur, l.Next, l.SendCur, l.Ceil, l.Seen))
	}
	return fmt.Sprintf("[%.1500s]", strings.Join(out, ", "))
}

func toldChanges(l []api.Change) string {
	var out []string
	for _, c := range l {
		out = append(out, fmt.Sprintf("{kind %d, link %d, key %s, side %d, prefix %v}", c.Kind, c.Link, toldKey(c.Key), c.Side, c.Prefix))
	}
	return fmt.Sprintf("%.900s", strings.Join(out, " "))
}

// wantJudge: Judge answers just this.
func wantJudge(t *testing.T, what string, was conf, l []api.Change, want conf, wantAt int, wantErr api.Errno) {
	t.Helper()
	if got, at, e := judge(was, l...); !same(got, want) || at != wantAt || e != wantErr {
		t.Errorf("%s: Judge(%s; %s) = %s, %d, %d, want %s, %d, %d", what, told(was), toldChanges(l), told(got), at, e, told(want), wantAt, wantErr)
	}
}

// wantFault: the change of that number has the fault, and nothing but these two is told.
func wantFault(t *testing.T, what string, was conf, at int, fault api.Errno, l ...api.Change) {
	t.Helper()
	wantJudge(t, what, was, l, conf{}, at, fault)
}

// wantDone: the changes are done, and this stands behind them.
func wantDone(t *testing.T, what string, was, want conf, l ...api.Change) {
	t.Helper()
	wantJudge(t, what, was, l, want, 0, api.OK)
}

// wantPlain holds Judge against its plain form; of lists that are no configuration there is none to be held against.
func wantPlain(t *testing.T, what string, was conf, l ...api.Change) {
	t.Helper()
	wantConf(t, what+", what is handed in", was)
	want, at, e := plainJudge(was, l)
	wantJudge(t, what, was, l, want, at, e)
}

// wantConf: it is a configuration.
func wantConf(t *testing.T, what string, c conf) {
	t.Helper()
	if why := whyNone(c); why != "" {
		t.Fatalf("%s: %s: %s is no configuration", what, why, told(c))
	}
}

// done are the lists behind changes that must have no fault.
func done(t *testing.T, was conf, l ...api.Change) conf {
	t.Helper()
	got, at, e := judge(was, l...)
	if at != 0 || e != api.OK {
		t.Fatalf("Judge(%s; %s) = %d, %d, want 0, OK", told(was), toldChanges(l), at, e)
	}
	return got
}
