package bundle_test

import (
	"reflect"
	"testing"

	"bundle/api"
	"bundle/bundle"
)

const (
	lowest  = -1 << 63
	highest = 1<<63 - 1
)

// small is the store of the document's first six examples.
func small() api.Config {
	return api.Config{Kind: api.List, Threads: 2, Nodes: 4, Entries: 9, Limit: 100}
}

func makeStore(t *testing.T, c api.Config) *bundle.Store {
	t.Helper()
	s, e := bundle.New(c)
	if s == nil || e != api.OK {
		t.Fatalf("New(%+v) = %v, %d", c, s, e)
	}
	return s
}

func begin(t *testing.T, s *bundle.Store, thread int, op api.Op) {
	t.Helper()
	if e := s.Begin(thread, op); e != api.OK {
		t.Fatalf("Begin(%d, %+v) = %d", thread, op, e)
	}
}

func insert(key, value int) api.Op { return api.Op{Kind: api.Insert, Key: key, Value: value} }
func remove(key int) api.Op        { return api.Op{Kind: api.Remove, Key: key} }
func lookup(key int) api.Op        { return api.Op{Kind: api.Lookup, Key: key} }

func did(value, stamp int) api.Answer  { return api.Answer{Did: true, Value: value, Stamp: stamp} }
func refused(stamp int) api.Answer     { return api.Answer{Stamp: stamp} }
func failed(e api.Errno) api.Answer    { return api.Answer{Err: e} }
func span(lo, hi int) api.Span         { return api.Span{Lo: lo, Hi: hi} }
func scan(spans ...api.Span) api.Op    { return api.Op{Kind: api.Scan, Spans: spans} }
func sameAnswer(a, b api.Answer) bool  { return reflect.DeepEqual(a, b) }
func pick(number int, from ...int) int { return from[number%len(from)] }

// pairs: those that filled puts in.
func pairs(keys ...int) []api.Pair {
	var list []api.Pair
	for _, key := range keys {
		list = append(list, api.Pair{Key: key, Value: 10 * key})
	}
	return list
}

// seen: what a Scan answers.
func seen(stamp int, lists ...[]api.Pair) api.Answer {
	return api.Answer{Stamp: stamp, Spans: lists}
}

func step(t *testing.T, s *bundle.Store, thread, want int) {
	t.Helper()
	if how, e := s.Step(thread); how != want || e != api.OK {
		t.Fatalf("Step(%d) = %d, %d, want %d", thread, how, e, want)
	}
}

func moves(t *testing.T, s *bundle.Store, thread, count int) {
	t.Helper()
	for range count {
		step(t, s, thread, api.Moved)
	}
}

func waits(t *testing.T, s *bundle.Store, thread int) {
	t.Helper()
	step(t, s, thread, api.Waited)
}

// ends: the thread's operation ends with its count-th step from here, and answers what is wanted.
func ends(t *testing.T, s *bundle.Store, thread, count int, want api.Answer) {
	t.Helper()
	moves(t, s, thread, count-1)
	step(t, s, thread, api.Ended)
	answers(t, s, thread, want)
}

func answers(t *testing.T, s *bundle.Store, thread int, want api.Answer) {
	t.Helper()
	if a, e := s.Answer(thread); e != api.OK || !sameAnswer(a, want) {
		t.Fatalf("Answer(%d) = %+v, %d, want %+v", thread, a, e, want)
	}
}

// does: the thread does a whole operation of so many steps.
func does(t *testing.T, s *bundle.Store, thread int, op api.Op, count int, want api.Answer) {
	t.Helper()
	begin(t, s, thread, op)
	ends(t, s, thread, count, want)
}

func shows(t *testing.T, s *bundle.Store, nodes, entries, clock int) {
	t.Helper()
	n, e := s.Room()
	if c := s.Clock(); n != nodes || e != entries || c != clock {
		t.Fatalf("Room %d, %d, Clock %d, want %d, %d, %d", n, e, c, nodes, entries, clock)
	}
}

// sweeps: so many calls of Sweep answer Moved.
func sweeps(t *testing.T, s *bundle.Store, count int) {
	t.Helper()
	for i := range count {
		if how := s.Sweep(); how != api.Moved {
			t.Fatalf("call %d of %d of Sweep = %d, want Moved", i+1, count, how)
		}
	}
}

func sweepWaits(t *testing.T, s *bundle.Store) {
	t.Helper()
	if how := s.Sweep(); how != api.Waited {
		t.Fatalf("Sweep = %d, want Waited", how)
	}
}

// sweepEnds: the sweep ends with its count-th call from here.
func sweepEnds(t *testing.T, s *bundle.Store, count int) {
	t.Helper()
	sweeps(t, s, count-1)
	if how := s.Sweep(); how != api.Ended {
		t.Fatalf("the last call of Sweep = %d, want Ended", how)
	}
}
