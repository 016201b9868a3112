package bundle

import (
	"fmt"
	"math/rand"
	"reflect"
	"sort"
	"strings"
	"testing"

	"bundle/api"
	"bundle/memory"
)

// picture: all that a store knows, as a text.
func picture(s *Store) string {
	text := fmt.Sprintf("%d %d %d %+v %+v", s.kind, s.limit, s.clock, s.sweep, *s.memory)
	for _, t := range s.threads {
		text += fmt.Sprintf("\n%+v", *t)
	}
	return text
}

func listStore(t *testing.T, threads int) *Store {
	t.Helper()
	return storeOf(t, api.List, threads)
}

func storeOf(t *testing.T, kind, threads int) *Store {
	t.Helper()
	s, e := New(api.Config{Kind: kind, Threads: threads, Nodes: 6, Entries: 20, Limit: 9})
	if e != api.OK {
		t.Fatalf("New: %d", e)
	}
	return s
}

func begun(t *testing.T, s *Store, thread int, op api.Op) {
	t.Helper()
	if e := s.Begin(thread, op); e != api.OK {
		t.Fatalf("Begin(%d, %+v) = %d", thread, op, e)
	}
}

func stepped(t *testing.T, s *Store, thread, count int) {
	t.Helper()
	for range count {
		if how, e := s.Step(thread); how == api.Waited || e != api.OK {
			t.Fatalf("Step(%d) = %d, %d", thread, how, e)
		}
	}
}

// whole: a thread does an operation of so many steps.
func whole(t *testing.T, s *Store, thread int, op api.Op, count int) {
	t.Helper()
	begun(t, s, thread, op)
	stepped(t, s, thread, count)
	if s.threads[thread].busy {
		t.Fatalf("thread %d: %+v takes more than %d steps", thread, op, count)
	}
}

func TestErrorsChangeNothing(t *testing.T) { // P1
	for _, kind := range []int{api.List, api.Tree} {
		s := storeOf(t, kind, 2)
		whole(t, s, 0, api.Op{Kind: api.Insert, Key: 5}, 12)
		for i := range 14 + kind { // thread 0 has an operation under way behind its i-th step; thread 1 none
			if i == 0 {
				begun(t, s, 0, api.Op{Kind: api.Remove, Key: 5})
			} else {
				stepped(t, s, 0, 1)
			}
			if !s.threads[0].busy {
				t.Fatalf("Remove ends with step %d", i)
			}
			before := picture(s)
			makeMistakes(t, s)
			if after := picture(s); after != before {
				t.Fatalf("errors have changed the store from\n%s\nto\n%s", before, after)
			}
			s.Sweep() // so that the next errors find the sweep at another step
		}
	}
}

// makeMistakes: thread 0 has an operation under way, thread 1 none.
func makeMistakes(t *testing.T, s *Store) {
	t.Helper()
	for _, thread := range []int{-1, 0, 2} {
		if e := s.Begin(thread, api.Op{Kind: api.Insert, Key: 7}); e == api.OK {
			t.Fatalf("Begin(%d) = OK", thread)
		}
	}
	s.Begin(1, api.Op{Kind: api.Insert, Key: -1})
	s.Begin(1, api.Op{Kind: api.Scan})
	for _, thread := range []int{-1, 1, 2} {
		s.Step(thread)
		s.Answer(thread)
	}
	New(api.Config{Kind: api.Tree + 1})
}

func TestWaitingAndAskingChangeNothing(t *testing.T) { // P5, P6, P7, P10
	const sweeping = api.Scan + 1
	r := rand.New(rand.NewSource(2))
	waits := map[int]int{}
	for i := range 80 {
		s := storeOf(t, i%2, 3)
		for range 150 {
			thread := r.Intn(3)
			s.Begin(thread, api.Op{Kind: api.Insert + r.Intn(4), Key: r.Intn(3), Spans: []api.Span{{Lo: 0, Hi: 2}, {Lo: 1, Hi: 1}}})
			kind := s.threads[thread].work.kind
			before := picture(s)
			how, _ := s.Step(thread)
			if how == api.Waited {
				waits[kind]++
				if after := picture(s); after != before {
					t.Fatalf("a step that waited has changed the store from\n%s\nto\n%s", before, after)
				}
			}
			before = picture(s)
			if r.Intn(2) == 0 && s.Sweep() == api.Waited {
				waits[sweeping]++
				if after := picture(s); after != before {
					t.Fatalf("a sweep that waited has changed the store from\n%s\nto\n%s", before, after)
				}
			}
			before = picture(s)
			s.Answer(thread)
			s.Clock()
			s.Room()
			if after := picture(s); after != before {
				t.Fatalf("a question has changed the store from\n%s\nto\n%s", before, after)
			}
		}
	}
	for kind := api.Insert; kind <= sweeping; kind++ {
		if waits[kind] == 0 {
			t.Errorf("no step of the kind %d waited", kind)
		}
	}
}

func TestSpansAreNotKept(t *testing.T) { // P2
	s := listStore(t, 2)
	spans := []api.Span{{Lo: 1, Hi: 2}, {Lo: 3, Hi: 4}}
	begun(t, s, 0, api.Op{Kind: api.Scan, Spans: spans})
	begun(t, s, 1, api.Op{Kind: api.Scan, Spans: spans})
	before := picture(s)
	spans[0].Lo = 0
	spans[1] = api.Span{}
	if after := picture(s); after != before {
		t.Errorf("the caller's change of its spans has changed the store from\n%s\nto\n%s", before, after)
	}
}

func TestSlots(t *testing.T) { // P8: Come, Read, Announce, Leave
	checkSlots(t, listStore(t, 2), 9)
	checkSlots(t, storeOf(t, api.Tree, 2), 11)
}

// checkSlots: the slot says a time from Announce to Unlock, which are so many steps.
func checkSlots(t *testing.T, s *Store, steps int) {
	t.Helper()
	w := s.threads[0]
	if w.slot != slotIdle {
		t.Errorf("at first the slot says %d", w.slot)
	}
	begun(t, s, 0, api.Op{Kind: api.Insert, Key: 5})
	if w.slot != slotIdle {
		t.Errorf("ahead of Come the slot says %d", w.slot)
	}
	stepped(t, s, 0, 1)
	if w.slot != slotComing {
		t.Errorf("behind Come the slot says %d", w.slot)
	}
	whole(t, s, 1, api.Op{Kind: api.Insert, Key: 6}, 12)
	stepped(t, s, 0, 1)
	if w.slot != slotComing || w.work.time != 1 {
		t.Errorf("behind Read the slot says %d, the time is %d", w.slot, w.work.time)
	}
	whole(t, s, 1, api.Op{Kind: api.Insert, Key: 7}, 13)
	for i := range steps {
		stepped(t, s, 0, 1)
		if w.slot != slotTime || w.work.time != 1 {
			t.Errorf("%d steps behind Announce the slot says %d, the time is %d", i, w.slot, w.work.time)
		}
	}
	stepped(t, s, 0, 1)
	if w.busy || w.slot != slotIdle {
		t.Errorf("behind Leave the slot says %d", w.slot)
	}
}

func TestSlotsOfReads(t *testing.T) { // P9: as in P8
	for _, op := range []api.Op{{Kind: api.Lookup, Key: 5}, {Kind: api.Scan, Spans: []api.Span{{Lo: 1, Hi: 4}}}} {
		s := listStore(t, 2)
		w := s.threads[0]
		begun(t, s, 0, op)
		for i, want := range []int{slotIdle, slotComing, slotComing, slotTime, slotTime, slotIdle} {
			if i > 0 {
				stepped(t, s, 0, 1)
			}
			if w.slot != want {
				t.Errorf("%+v: behind %d steps the slot says %d, want %d", op, i, w.slot, want)
			}
			whole(t, s, 1, api.Op{Kind: api.Insert, Key: 6 + i}, 12+i)
			if i >= 2 && i < 5 && w.work.time != 2 {
				t.Errorf("%+v: behind %d steps the time is %d, want 2", op, i, w.work.time)
			}
		}
		if w.busy || w.last.Stamp != 2 {
			t.Errorf("%+v: busy %v, answer %+v", op, w.busy, w.last)
		}
	}
}

func TestReadsChangeNothingButTheirThread(t *testing.T) { // P9
	for _, op := range []api.Op{{Kind: api.Lookup, Key: 9}, {Kind: api.Scan, Spans: []api.Span{{Lo: 0, Hi: 9}}}} {
		s := listStore(t, 2)
		whole(t, s, 0, api.Op{Kind: api.Insert, Key: 5}, 12)
		whole(t, s, 0, api.Op{Kind: api.Insert, Key: 6}, 13)
		whole(t, s, 0, api.Op{Kind: api.Remove, Key: 5}, 14)
		begun(t, s, 0, api.Op{Kind: api.Insert, Key: 8})
		stepped(t, s, 0, 6) // it has a lock
		before := fmt.Sprintf("%d %+v %+v", s.clock, *s.memory, *s.threads[0])
		begun(t, s, 1, op)
		for range 6 {
			stepped(t, s, 1, 1)
			if after := fmt.Sprintf("%d %+v %+v", s.clock, *s.memory, *s.threads[0]); after != before {
				t.Fatalf("%+v has changed the store from\n%s\nto\n%s", op, before, after)
			}
		}
		if s.threads[1].busy {
			t.Errorf("%+v takes more than 6 steps", op)
		}
	}
}

func TestScanNotesFromLoToHi(t *testing.T) { // P9
	s := listStore(t, 1)
	for i, key := range []int{2, 3, 5, 7, 8} {
		whole(t, s, 0, api.Op{Kind: api.Insert, Key: key}, 12+i)
	}
	begun(t, s, 0, api.Op{Kind: api.Scan, Spans: []api.Span{{Lo: 7, Hi: 7}, {Lo: 3, Hi: 4}}})
	for i, want := range []int{0, 0, 0, 0, 1, 2, 3, 3} { // 2 is below Lo, 8 above Hi; 5 is noted, though no span has it
		stepped(t, s, 0, 1)
		if noted := s.threads[0].work.noted; len(noted) != want {
			t.Errorf("behind %d steps %v is noted", i+1, noted)
		}
	}
}

func TestNothingOfAnEndedReadIsKeptButItsAnswer(t *testing.T) {
	s := listStore(t, 1)
	whole(t, s, 0, api.Op{Kind: api.Insert, Key: 5}, 12)
	whole(t, s, 0, api.Op{Kind: api.Scan, Spans: []api.Span{{Lo: 0, Hi: 9}}}, 6)
	if w := s.threads[0].work; w.spans != nil || w.noted != nil || w.answer.Spans != nil {
		t.Errorf("kept: %+v", w)
	}
}

func TestASweepChangesNothingButThePools(t *testing.T) { // P10
	s := listStore(t, 2)
	whole(t, s, 0, api.Op{Kind: api.Insert, Key: 5}, 12)
	whole(t, s, 0, api.Op{Kind: api.Remove, Key: 5}, 14)
	begun(t, s, 0, api.Op{Kind: api.Insert, Key: 8})
	stepped(t, s, 0, 7) // it has a lock, and a node that is not linked
	begun(t, s, 1, api.Op{Kind: api.Lookup, Key: 8})
	stepped(t, s, 1, 3)
	before := fmt.Sprintf("%d %+v %+v", s.clock, *s.threads[0], *s.threads[1])
	for range 10 {
		s.Sweep()
		if after := fmt.Sprintf("%d %+v %+v", s.clock, *s.threads[0], *s.threads[1]); after != before {
			t.Fatalf("the sweep has changed the threads from\n%s\nto\n%s", before, after)
		}
	}
	remembers(t, s, memory.Anchor, 0, "1@2 3@pending")
	remembers(t, s, 3, 0, "1@pending")
	remembers(t, s, 2, 0, "1@1") // its retired time is 2, as the threads' times are
	if n := s.memory.Node(2); !n.Dead || !n.Retired || n.RetiredAt != 2 || n.Key != 5 {
		t.Errorf("the retired node: %+v", n)
	}
}

func TestNothingOfAnEndedSweepIsKept(t *testing.T) { // P10: a new one begins at nothing
	s := listStore(t, 2)
	whole(t, s, 0, api.Op{Kind: api.Insert, Key: 5}, 12)
	whole(t, s, 0, api.Op{Kind: api.Remove, Key: 5}, 14)
	begun(t, s, 0, api.Op{Kind: api.Lookup, Key: 5})
	stepped(t, s, 0, 3)
	for i := range 5 {
		if how := s.Sweep(); (how == api.Ended) != (i == 4) {
			t.Fatalf("call %d of Sweep = %d", i+1, how)
		}
	}
	if !reflect.DeepEqual(s.sweep, sweep{}) {
		t.Errorf("kept: %+v", s.sweep)
	}
}

// at: the node that has the key (not 0, as those in the pool have) and is not dead.
func at(t *testing.T, s *Store, key int) int {
	t.Helper()
	for i := range 8 {
		n := s.memory.Node(i)
		if i != memory.Anchor && i != memory.End && n.Key == key && !n.Dead {
			return i
		}
	}
	t.Fatalf("no node has the key %d", key)
	return 0
}

// remembers: the link of the node has just these entries, each as node@stamp, in the order of their stamps. (The entries are read by reflection: nobody else has to see them.)
func remembers(t *testing.T, s *Store, number, side int, want string) {
	t.Helper()
	var found []string
	entries := reflect.ValueOf(*s.memory).FieldByName("entries")
	for i := range entries.Len() {
		e := entries.Index(i)
		link := e.FieldByName("link")
		if !e.FieldByName("used").Bool() || link.Field(0).Int() != int64(number) || link.Field(1).Int() != int64(side) {
			continue
		}
		stamp := fmt.Sprint(e.FieldByName("stamp").Int())
		if e.FieldByName("pending").Bool() {
			stamp = "pending"
		}
		found = append(found, fmt.Sprintf("%d@%s", e.FieldByName("to").Int(), stamp))
	}
	sort.Slice(found, func(i, j int) bool { return found[i][2:] < found[j][2:] })
	if text := strings.Join(found, " "); text != want {
		t.Errorf("link %d of node %d remembers %q, want %q", side, number, text, want)
	}
}

func TestKillLinkRetire(t *testing.T) { // P8: Kill, Link, Stamp, Unlock
	s := listStore(t, 2)
	whole(t, s, 0, api.Op{Kind: api.Insert, Key: 5}, 12)
	whole(t, s, 0, api.Op{Kind: api.Insert, Key: 6}, 13)
	c := at(t, s, 5)
	behind := at(t, s, 6)
	if c != 2 || behind != 3 {
		t.Fatalf("the nodes are %d and %d: what links remember is written with 2 and 3 below", c, behind)
	}
	begun(t, s, 0, api.Op{Kind: api.Remove, Key: 5})
	stepped(t, s, 0, 9)
	if s.memory.Node(c).Dead || s.leadsFrom(memory.Anchor, 5) != c {
		t.Errorf("behind Take the node is dead, or the link turned")
	}
	stepped(t, s, 0, 1)
	if !s.memory.Node(c).Dead || s.leadsFrom(memory.Anchor, 5) != c {
		t.Errorf("behind Kill the node is not dead, or the link turned")
	}
	stepped(t, s, 0, 1)
	if s.leadsFrom(memory.Anchor, 5) != behind || s.leadsFrom(c, 5) != behind {
		t.Errorf("behind Link the links lead to %d, %d", s.leadsFrom(memory.Anchor, 5), s.leadsFrom(c, 5))
	}
	remembers(t, s, memory.Anchor, 0, "1@0 2@1 3@pending")
	whole(t, s, 1, api.Op{Kind: api.Insert, Key: 8}, 13)
	stepped(t, s, 0, 1)
	remembers(t, s, memory.Anchor, 0, "1@0 2@1 3@3") // the operation's stamp, not the clock
	remembers(t, s, c, 0, "1@1 3@2")
	if s.memory.Node(c).Retired {
		t.Errorf("the node is retired ahead of Unlock")
	}
	stepped(t, s, 0, 1)
	if n := s.memory.Node(c); !n.Retired || n.RetiredAt != 4 || n.Key != 5 {
		t.Errorf("behind Unlock, with the clock at 4: %+v", n)
	}
	stepped(t, s, 0, 1)
	if s.threads[0].last.Stamp != 3 {
		t.Errorf("the stamp is %d", s.threads[0].last.Stamp)
	}
	for _, key := range []int{6, 8} {
		if n := s.memory.Node(at(t, s, key)); n.Dead || n.Retired {
			t.Errorf("key %d was not taken out: %+v", key, n)
		}
	}
}

func TestStampsOfANewNode(t *testing.T) { // P8: Prepare, Take, Stamp
	s := listStore(t, 1)
	begun(t, s, 0, api.Op{Kind: api.Insert, Key: 5})
	stepped(t, s, 0, 6)
	remembers(t, s, memory.Anchor, 0, "1@0")
	stepped(t, s, 0, 1)
	remembers(t, s, memory.Anchor, 0, "1@0 2@pending")
	remembers(t, s, 2, 0, "1@pending")
	stepped(t, s, 0, 1)
	remembers(t, s, memory.Anchor, 0, "1@0 2@pending")
	remembers(t, s, 2, 0, "1@1")
	stepped(t, s, 0, 1)
	remembers(t, s, memory.Anchor, 0, "1@0 2@pending")
	stepped(t, s, 0, 1)
	remembers(t, s, memory.Anchor, 0, "1@0 2@1")
}

func TestNoPendingEntryStaysBehindErrClock(t *testing.T) { // P8: Take
	s, _ := New(api.Config{Kind: api.List, Threads: 1, Nodes: 2, Entries: 9, Limit: 1})
	whole(t, s, 0, api.Op{Kind: api.Insert, Key: 5}, 12)
	whole(t, s, 0, api.Op{Kind: api.Insert, Key: 3}, 10)
	remembers(t, s, memory.Anchor, 0, "1@0 2@1")
	remembers(t, s, 3, 0, "")
	whole(t, s, 0, api.Op{Kind: api.Remove, Key: 5}, 11)
	remembers(t, s, memory.Anchor, 0, "1@0 2@1")
	remembers(t, s, 2, 0, "1@1")
}

func TestOnlyWhatWasKilledIsRetired(t *testing.T) { // P8: Unlock
	s, _ := New(api.Config{Kind: api.List, Threads: 1, Nodes: 2, Entries: 6, Limit: 2})
	whole(t, s, 0, api.Op{Kind: api.Insert, Key: 5}, 12)
	whole(t, s, 0, api.Op{Kind: api.Insert, Key: 3}, 12)
	whole(t, s, 0, api.Op{Kind: api.Remove, Key: 4}, 9)
	whole(t, s, 0, api.Op{Kind: api.Insert, Key: 5}, 9)
	whole(t, s, 0, api.Op{Kind: api.Remove, Key: 5}, 12) // ErrClock
	if n := s.memory.Node(at(t, s, 5)); n.Dead || n.Retired {
		t.Errorf("key 5 was not taken out: %+v", n)
	}
}
