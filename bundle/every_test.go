package bundle

import (
	"fmt"
	"maps"
	"reflect"
	"slices"
	"testing"

	"bundle/api"
	"bundle/memory"
)

// scene: what each thread does, one after another; behind what thread 0 has done ahead of all.
type scene struct {
	ahead  []api.Op
	ops    [][]api.Op
	sweeps int // so many at the most
}

// world: a store at work in a scene.
type world struct {
	t     *testing.T
	scene scene
	s     *Store
	held  []map[int]int // at each time, what the store held
	begun []int         // of each thread, how many operations
	swept int           // how many sweeps have ended
}

func newWorld(t *testing.T, sc scene) *world {
	s, e := New(api.Config{Kind: api.List, Threads: len(sc.ops), Nodes: 5, Entries: 16, Limit: 99})
	if e != api.OK {
		t.Fatalf("New: %d", e)
	}
	w := &world{t: t, scene: sc, s: s, held: []map[int]int{{}}, begun: make([]int, len(sc.ops))}
	for _, op := range sc.ahead {
		if e := s.Begin(0, op); e != api.OK {
			t.Fatalf("Begin: %d", e)
		}
		for range 30 {
			w.step(0)
		}
	}
	return w
}

// act: the next step of a thread, or of the sweep, which has the number behind the threads'. False: it has none, or waited.
func (w *world) act(actor int) bool {
	if actor == len(w.begun) {
		if w.swept == w.scene.sweeps {
			return false
		}
		how := w.s.Sweep()
		if how == api.Ended {
			w.swept++
		}
		return how != api.Waited
	}
	if !w.s.threads[actor].busy {
		if w.begun[actor] == len(w.scene.ops[actor]) {
			return false
		}
		w.s.Begin(actor, w.scene.ops[actor][w.begun[actor]])
		w.begun[actor]++
	}
	return w.step(actor)
}

func (w *world) step(thread int) bool {
	th := w.s.threads[thread]
	work := th.work
	how, e := w.s.Step(thread)
	if e != api.OK {
		return false
	}
	if w.s.clock == len(w.held) {
		now := maps.Clone(w.held[len(w.held)-1])
		if work.kind == api.Insert {
			now[work.key] = work.value
		} else {
			delete(now, work.key)
		}
		w.held = append(w.held, now)
	}
	if how == api.Ended && isRead(work.kind) {
		w.checkAnswer(work, th.last)
	}
	return how != api.Waited
}

func (w *world) checkAnswer(work work, answer api.Answer) {
	w.t.Helper()
	held := w.held[answer.Stamp]
	want := api.Answer{Stamp: answer.Stamp}
	if work.kind == api.Lookup {
		want.Value, want.Did = held[work.key]
	} else {
		var list []api.Pair
		for _, key := range slices.Sorted(maps.Keys(held)) {
			if work.spans[0].Lo <= key && key <= work.spans[0].Hi {
				list = append(list, api.Pair{Key: key, Value: held[key]})
			}
		}
		want.Spans = [][]api.Pair{list}
	}
	if answer.Stamp != work.time || !reflect.DeepEqual(answer, want) {
		w.t.Fatalf("%+v answers %+v, want %+v", work, answer, want)
	}
}

func isOut(n memory.Node) bool { return reflect.ValueOf(n).FieldByName("used").Bool() }

// checkWalks: no thread stands at a node in the pool, or comes to one; and a read comes to what was held at its time (P12).
func (w *world) checkWalks() {
	w.t.Helper()
	for i, th := range w.s.threads {
		if !th.busy || th.work.next < stepWalk || th.work.next > stepCheck {
			continue
		}
		if th.work.next > stepWalk && !isOut(w.s.memory.Node(th.work.ahead)) {
			w.t.Fatalf("thread %d knows a node in the pool:\n%s", i, picture(w.s))
		}
		found := map[int]int{}
		for n := th.work.stand; n != memory.End; {
			node := w.s.memory.Node(n)
			next := node.Next
			if isRead(th.work.kind) {
				if w.s.memory.HasPending(n) {
					found = nil // what comes behind is not known yet
					break
				}
				next = w.s.memory.LedTo(n, th.work.time)
			}
			ahead := w.s.memory.Node(next)
			if !isOut(node) || !isOut(ahead) || next == memory.Anchor || n != memory.Anchor && ahead.Key <= node.Key {
				w.t.Fatalf("thread %d comes to a node in the pool, or back:\n%s", i, picture(w.s))
			}
			if next != memory.End {
				found[ahead.Key] = ahead.Value
			}
			n = next
		}
		if isRead(th.work.kind) && found != nil {
			w.checkFound(th, found)
		}
	}
}

func (w *world) checkFound(th *worker, found map[int]int) {
	w.t.Helper()
	want := maps.Clone(w.held[th.work.time])
	for key := range want {
		if th.work.stand != memory.Anchor && key <= w.s.memory.Node(th.work.stand).Key {
			delete(want, key)
		}
	}
	if !maps.Equal(found, want) {
		w.t.Fatalf("thread %d comes to %v, want %v:\n%s", th.number, found, want, picture(w.s))
	}
}

// checkRest: all operations have ended: a whole sweep leaves what the keys need (P14).
func (w *world) checkRest() {
	w.t.Helper()
	if w.s.sweep.made > 0 {
		w.wholeSweep(len(w.begun) + 3 - w.s.sweep.made)
	}
	w.wholeSweep(len(w.begun) + 3)
	keys := len(w.held[len(w.held)-1])
	if nodes, entries := w.s.Room(); nodes != 5-keys || entries != 16-keys-1 {
		w.t.Fatalf("with %d keys Room is %d, %d:\n%s", keys, nodes, entries, picture(w.s))
	}
}

func (w *world) wholeSweep(calls int) {
	w.t.Helper()
	for i := range calls {
		if how := w.s.Sweep(); (how == api.Ended) != (i+1 == calls) || how == api.Waited {
			w.t.Fatalf("call %d of %d of Sweep = %d", i+1, calls, how)
		}
	}
}

const mostStates = 100000

// explore: every state that some schedule leads to is looked at; how many there are.
func explore(t *testing.T, sc scene) int {
	t.Helper()
	known := map[string]bool{}
	for paths := [][]byte{nil}; len(paths) > 0; {
		path := paths[len(paths)-1]
		paths = paths[:len(paths)-1]
		busy, moved := 0, 0
		for actor := 0; actor <= len(sc.ops); actor++ {
			w := newWorld(t, sc)
			for _, earlier := range path {
				w.act(int(earlier))
			}
			hasWork := actor < len(sc.ops) && (w.s.threads[actor].busy || w.begun[actor] < len(sc.ops[actor]))
			if hasWork {
				busy++
			}
			if !w.act(actor) {
				continue
			}
			if hasWork {
				moved++
			}
			w.checkWalks()
			key := fmt.Sprint(picture(w.s), w.held, w.begun, w.swept)
			if !known[key] {
				known[key] = true
				paths = append(paths, append(slices.Clone(path), byte(actor)))
			}
			if len(known) > mostStates {
				t.Fatal("there is no end of states")
			}
		}
		if busy > 0 && moved == 0 { // P13
			t.Fatalf("all wait behind %v", path)
		}
		if busy == 0 {
			w := newWorld(t, sc)
			for _, earlier := range path {
				w.act(int(earlier))
			}
			w.checkRest()
		}
	}
	return len(known)
}

func TestEveryScheduleOfASweep(t *testing.T) { // P10, P12, P13, P14
	put := func(key, value int) api.Op { return api.Op{Kind: api.Insert, Key: key, Value: value} }
	take := func(key int) api.Op { return api.Op{Kind: api.Remove, Key: key} }
	get := func(key int) api.Op { return api.Op{Kind: api.Lookup, Key: key} }
	all := api.Op{Kind: api.Scan, Spans: []api.Span{{Lo: 0, Hi: api.MaxKey}}}
	two := []api.Op{put(5, 50), put(9, 90)}
	for name, sc := range map[string]scene{
		"two take out neighbours":         {two, [][]api.Op{{take(5)}, {take(9)}}, 2},
		"one takes out, one puts between": {two, [][]api.Op{{take(5)}, {put(7, 70)}}, 2},
		"out and in again beside a scan":  {two, [][]api.Op{{take(5), put(5, 55)}, {all}}, 2},
		"out and in again beside lookups": {two, [][]api.Op{{take(9), put(8, 80)}, {get(9), get(8)}}, 1},
	} {
		t.Run(name, func(t *testing.T) {
			t.Parallel()
			t.Logf("%d states", explore(t, sc))
		})
	}
}
