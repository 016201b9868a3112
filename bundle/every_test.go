package bundle

import (
	"fmt"
	"maps"
	"reflect"
	"slices"
	"testing"

	"bundle/api"
	"bundle/memory"
)

// scene: what each thread does, one after another; behind what thread 0 has done ahead of all.
type scene struct {
	kind   int
	ahead  []api.Op
	ops    [][]api.Op
	sweeps int // so many at the most
}

// world: a store at work in a scene.
type world struct {
	t     *testing.T
	scene scene
	s     *Store
	held  []map[int]int // at each time, what the store held
	begun []int         // of each thread, how many operations
	swept int           // how many sweeps have ended
}

const (
	worldNodes   = 8
	worldEntries = 24
)

func newWorld(t *testing.T, sc scene) *world {
	s, e := New(api.Config{Kind: sc.kind, Threads: len(sc.ops), Nodes: worldNodes, Entries: worldEntries, Limit: 99})
	if e != api.OK {
		t.Fatalf("New: %d", e)
	}
	w := &world{t: t, scene: sc, s: s, held: []map[int]int{{}}, begun: make([]int, len(sc.ops))}
	for _, op := range sc.ahead {
		if e := s.Begin(0, op); e != api.OK {
			t.Fatalf("Begin: %d", e)
		}
		for range 30 {
			w.step(0)
		}
	}
	return w
}

// act: the next step of a thread, or of the sweep, which has the number behind the threads'. False: it has none, or waited.
func (w *world) act(actor int) bool {
	if actor == len(w.begun) {
		if w.swept == w.scene.sweeps {
			return false
		}
		how := w.s.Sweep()
		if how == api.Ended {
			w.swept++
		}
		return how != api.Waited
	}
	if !w.s.threads[actor].busy {
		if w.begun[actor] == len(w.scene.ops[actor]) {
			return false
		}
		w.s.Begin(actor, w.scene.ops[actor][w.begun[actor]])
		w.begun[actor]++
	}
	return w.step(actor)
}

func (w *world) step(thread int) bool {
	th := w.s.threads[thread]
	work := th.work
	how, e := w.s.Step(thread)
	if e != api.OK {
		return false
	}
	if w.s.clock == len(w.held) {
		now := maps.Clone(w.held[len(w.held)-1])
		if work.kind == api.Insert {
			now[work.key] = work.value
		} else {
			delete(now, work.key)
		}
		w.held = append(w.held, now)
	}
	if how == api.Ended && isRead(work.kind) {
		w.checkAnswer(work, th.last)
	}
	return how != api.Waited
}

func (w *world) checkAnswer(work work, answer api.Answer) {
	w.t.Helper()
	held := w.held[answer.Stamp]
	want := api.Answer{Stamp: answer.Stamp}
	if work.kind == api.Lookup {
		want.Value, want.Did = held[work.key]
	} else {
		var list []api.Pair
		for _, key := range slices.Sorted(maps.Keys(held)) {
			if work.spans[0].Lo <= key && key <= work.spans[0].Hi {
				list = append(list, api.Pair{Key: key, Value: held[key]})
			}
		}
		want.Spans = [][]api.Pair{list}
	}
	if answer.Stamp != work.time || !reflect.DeepEqual(answer, want) {
		w.t.Fatalf("%+v answers %+v, want %+v", work, answer, want)
	}
}

func isOut(n memory.Node) bool { return reflect.ValueOf(n).FieldByName("used").Bool() }

// checkWalks: no thread knows a node in the pool, or comes to one; and a read comes to what was held at its time (P12).
func (w *world) checkWalks() {
	w.t.Helper()
	for _, th := range w.s.threads {
		if !th.busy || th.work.next < stepWalk || th.work.next > stepCheck {
			continue
		}
		known := []int{th.work.stand, th.work.above}
		if th.work.next > stepWalk {
			known = append(known, th.work.ahead)
		}
		for _, n := range known {
			if !isOut(w.s.memory.Node(n)) {
				w.t.Fatalf("thread %d knows a node in the pool:\n%s", th.number, picture(w.s))
			}
		}
		switch th.work.kind {
		case api.Lookup:
			w.checkLookup(th)
		case api.Scan:
			w.checkScan(th)
		default:
			for side := range 2 {
				w.below(th, memory.Link{From: th.work.stand, Side: side}, map[int]int{})
			}
		}
	}
}

func (w *world) checkLookup(th *worker) {
	w.t.Helper()
	found := map[int]int{}
	if !w.below(th, w.s.memory.LinkFor(th.work.stand, th.work.key), found) {
		return
	}
	value, isThere := w.held[th.work.time][th.work.key]
	if got, isFound := found[th.work.key]; got != value || isFound != isThere {
		w.t.Fatalf("thread %d comes to %v:\n%s", th.number, found, picture(w.s))
	}
}

func (w *world) checkScan(th *worker) {
	w.t.Helper()
	found := map[int]int{}
	for _, l := range th.work.links {
		if !isOut(w.s.memory.Node(l.From)) {
			w.t.Fatalf("thread %d follows a link of a node in the pool:\n%s", th.number, picture(w.s))
		}
		if !w.below(th, l, found) {
			return
		}
	}
	for _, pair := range th.work.noted {
		found[pair.Key] = pair.Value
	}
	want := maps.Clone(w.held[th.work.time])
	isOutside := func(key, value int) bool { return key < th.work.spans[0].Lo || key > th.work.spans[0].Hi }
	maps.DeleteFunc(found, isOutside)
	maps.DeleteFunc(want, isOutside)
	if !maps.Equal(found, want) {
		w.t.Fatalf("thread %d comes to %v, want %v:\n%s", th.number, found, want, picture(w.s))
	}
}

// below: all pairs to which the link leads, now for an update, at its time for a read, go into found. False: an entry on the way is pending, so that a read does not know yet.
func (w *world) below(th *worker, l memory.Link, found map[int]int) bool {
	w.t.Helper()
	from := w.s.memory.Node(l.From)
	switch {
	case l.From == memory.Anchor:
		return w.within(th, l, 0, api.MaxKey+1, found)
	case from.IsInner() && l.Side == 0:
		return w.within(th, l, 0, from.Key-1, found)
	case from.IsInner():
		return w.within(th, l, from.Key, api.MaxKey+1, found)
	}
	return w.within(th, l, from.Key+1, api.MaxKey+1, found)
}

// within: as below; the keys to which the link leads must be from lo to hi.
func (w *world) within(th *worker, l memory.Link, lo, hi int, found map[int]int) bool {
	w.t.Helper()
	number := w.s.memory.LeadsTo(l)
	if number == memory.None {
		return true
	}
	if isRead(th.work.kind) {
		if w.s.memory.HasPending(l) {
			return false
		}
		number = w.s.memory.LedTo(l, th.work.time)
	}
	node := w.s.memory.Node(number)
	if !isOut(node) || number == memory.Anchor || node.Key < lo || node.Key > hi || node.IsInner() && node.Key == lo {
		w.t.Fatalf("thread %d comes to a node in the pool, or to a key out of its place:\n%s", th.number, picture(w.s))
	}
	first := memory.Link{From: number, Side: 0}
	if node.IsInner() {
		isKnown := w.within(th, first, lo, node.Key-1, found)
		return w.within(th, first.Other(), node.Key, hi, found) && isKnown
	}
	if number != memory.End {
		found[node.Key] = node.Value
	}
	return w.within(th, first, node.Key+1, hi, found)
}

// checkRest: all operations have ended: a whole sweep leaves what the keys need (P14).
func (w *world) checkRest() {
	w.t.Helper()
	if w.s.sweep.made > 0 {
		w.wholeSweep(len(w.begun) + 3 - w.s.sweep.made)
	}
	w.wholeSweep(len(w.begun) + 3)
	keys := len(w.held[len(w.held)-1])
	needed := keys
	if w.scene.kind == api.Tree {
		needed = 2 * keys
	}
	if nodes, entries := w.s.Room(); nodes != worldNodes-needed || entries != worldEntries-needed-1 {
		w.t.Fatalf("with %d keys Room is %d, %d:\n%s", keys, nodes, entries, picture(w.s))
	}
}

func (w *world) wholeSweep(calls int) {
	w.t.Helper()
	for i := range calls {
		if how := w.s.Sweep(); (how == api.Ended) != (i+1 == calls) || how == api.Waited {
			w.t.Fatalf("call %d of %d of Sweep = %d", i+1, calls, how)
		}
	}
}

const mostStates = 100000

// explore: every state that some schedule leads to is looked at; how many there are.
func explore(t *testing.T, sc scene) int {
	t.Helper()
	known := map[string]bool{}
	for paths := [][]byte{nil}; len(paths) > 0; {
		path := paths[len(paths)-1]
		paths = paths[:len(paths)-1]
		busy, moved := 0, 0
		for actor := 0; actor <= len(sc.ops); actor++ {
			w := newWorld(t, sc)
			for _, earlier := range path {
				w.act(int(earlier))
			}
			hasWork := actor < len(sc.ops) && (w.s.threads[actor].busy || w.begun[actor] < len(sc.ops[actor]))
			if hasWork {
				busy++
			}
			if !w.act(actor) {
				continue
			}
			if hasWork {
				moved++
			}
			w.checkWalks()
			key := fmt.Sprint(picture(w.s), w.held, w.begun, w.swept)
			if !known[key] {
				known[key] = true
				paths = append(paths, append(slices.Clone(path), byte(actor)))
			}
			if len(known) > mostStates {
				t.Fatal("there is no end of states")
			}
		}
		if busy > 0 && moved == 0 { // P13
			t.Fatalf("all wait behind %v", path)
		}
		if busy == 0 {
			w := newWorld(t, sc)
			for _, earlier := range path {
				w.act(int(earlier))
			}
			w.checkRest()
		}
	}
	return len(known)
}

func TestEveryScheduleOfAScene(t *testing.T) { // P10 to P14
	put := func(key, value int) api.Op { return api.Op{Kind: api.Insert, Key: key, Value: value} }
	take := func(key int) api.Op { return api.Op{Kind: api.Remove, Key: key} }
	get := func(key int) api.Op { return api.Op{Kind: api.Lookup, Key: key} }
	all := api.Op{Kind: api.Scan, Spans: []api.Span{{Lo: 0, Hi: api.MaxKey}}}
	two := []api.Op{put(5, 50), put(9, 90)}
	three := []api.Op{put(5, 50), put(9, 90), put(7, 70)}
	for name, sc := range map[string]scene{
		"list: two take out neighbours":         {api.List, two, [][]api.Op{{take(5)}, {take(9)}}, 2},
		"list: one takes out, one puts between": {api.List, two, [][]api.Op{{take(5)}, {put(7, 70)}}, 2},
		"list: out and in again beside a scan":  {api.List, two, [][]api.Op{{take(5), put(5, 55)}, {all}}, 2},
		"list: out and in again beside lookups": {api.List, two, [][]api.Op{{take(9), put(8, 80)}, {get(9), get(8)}}, 1},
		"tree: two take out two leaves of one":  {api.Tree, two, [][]api.Op{{take(5)}, {take(9)}}, 2},
		"tree: one inner node above another":    {api.Tree, three, [][]api.Op{{take(9)}, {take(5)}}, 1},
		"tree: three take out all":              {api.Tree, three, [][]api.Op{{take(9)}, {take(5)}, {take(7)}}, 0},
		"tree: one out, one in, and a scan":     {api.Tree, two, [][]api.Op{{take(9)}, {put(7, 70)}, {all}}, 0},
		"tree: one takes out, one puts beside":  {api.Tree, two, [][]api.Op{{take(5)}, {put(7, 70)}}, 2},
		"tree: out and in again beside a scan":  {api.Tree, two, [][]api.Op{{take(5), put(5, 55)}, {all}}, 2},
		"tree: out and in again beside lookups": {api.Tree, two, [][]api.Op{{take(9), put(8, 80)}, {get(9), get(8)}}, 1},
	} {
		t.Run(name, func(t *testing.T) {
			t.Parallel()
			t.Logf("%d states", explore(t, sc))
		})
	}
}
