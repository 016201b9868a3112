package bundle_test

import (
	"testing"

	"bundle/api"
	"bundle/bundle"
)

// filled: a store with the keys in it, each with ten times its number as the value.
func filled(t *testing.T, c api.Config, keys ...int) *bundle.Store {
	t.Helper()
	s := makeStore(t, c)
	for i, key := range keys {
		begin(t, s, 0, insert(key, 10*key))
		run(t, s, 0)
		answers(t, s, 0, did(0, i+1))
	}
	return s
}

// run: the thread goes on to the end of its operation.
func run(t *testing.T, s *bundle.Store, thread int) {
	t.Helper()
	for range 1000 {
		how, e := s.Step(thread)
		if e != api.OK {
			t.Fatalf("Step(%d) = %d, %d", thread, how, e)
		}
		if how == api.Ended {
			return
		}
	}
	t.Fatalf("the operation of thread %d does not end", thread)
}

func large() api.Config {
	return api.Config{Kind: api.List, Threads: 3, Nodes: 9, Entries: 40, Limit: 100}
}

func TestStepsOfUpdatesAtEachPlace(t *testing.T) { // P8: a walk has a step for each key below, and one more
	keys := []int{0, 4, 8, api.MaxKey}
	for i, key := range keys {
		s := filled(t, large(), keys...)
		does(t, s, 1, insert(key, -1), 8+i, refused(4))
		does(t, s, 1, remove(key), 14+i, did(10*key, 5))
		does(t, s, 1, remove(key), 8+i, refused(5))
		does(t, s, 1, insert(key, lowest), 12+i, did(0, 6))
		does(t, s, 1, remove(key), 14+i, did(lowest, 7))
	}
	s := filled(t, large(), 2, 1, 3)
	does(t, s, 1, remove(0), 8, refused(3))
	does(t, s, 1, remove(4), 11, refused(3))
	does(t, s, 1, remove(api.MaxKey), 11, refused(3))
}

func TestPoolsOfAnEmptyStoreRunShort(t *testing.T) { // P8, P11: Prepare
	for _, c := range []struct {
		kind, nodes, entries int
		want                 api.Errno
	}{
		{api.List, 0, 9, api.ErrFull}, {api.List, 1, 1, api.ErrFull}, {api.List, 1, 2, api.ErrFull}, {api.List, 1, 3, api.OK}, {api.List, 0, 1, api.ErrFull},
		{api.Tree, 0, 9, api.ErrFull}, {api.Tree, 1, 9, api.ErrFull}, {api.Tree, 2, 1, api.ErrFull}, {api.Tree, 2, 2, api.ErrFull}, {api.Tree, 2, 3, api.ErrFull},
		{api.Tree, 1, 3, api.ErrFull}, {api.Tree, 2, 4, api.OK},
	} {
		s := makeStore(t, api.Config{Kind: c.kind, Threads: 1, Nodes: c.nodes, Entries: c.entries, Limit: 9})
		if c.want == api.OK {
			does(t, s, 0, insert(5, 50), 12, did(0, 1))
			shows(t, s, 0, 0, 1)
			continue
		}
		does(t, s, 0, insert(5, 50), 9, failed(c.want))
		shows(t, s, c.nodes, c.entries-1, 0)
		does(t, s, 0, remove(5), 8, refused(0)) // the lock was given back, and nothing was put in
	}
}

func TestPoolsRunShort(t *testing.T) { // P8: Prepare
	s := filled(t, api.Config{Kind: api.List, Threads: 1, Nodes: 1, Entries: 3, Limit: 9}, 5)
	does(t, s, 0, remove(5), 10, failed(api.ErrFull))
	shows(t, s, 0, 0, 1)
	does(t, s, 0, insert(5, 51), 8, refused(1)) // refused ahead of any want
	does(t, s, 0, insert(6, 60), 10, failed(api.ErrFull))
	s = filled(t, api.Config{Kind: api.List, Threads: 1, Nodes: 1, Entries: 4, Limit: 9}, 5)
	does(t, s, 0, remove(5), 14, did(50, 2)) // it needs no node
	shows(t, s, 0, 0, 2)
}

func TestTheClockStopsAtItsLimit(t *testing.T) { // P8: Take
	c := large()
	c.Limit = 2
	s := filled(t, c, 5, 3)
	shows(t, s, 7, 35, 2)
	does(t, s, 0, insert(7, 70), 12, failed(api.ErrClock))
	does(t, s, 0, remove(5), 12, failed(api.ErrClock))
	does(t, s, 0, remove(3), 11, failed(api.ErrClock))
	shows(t, s, 7, 35, 2)
	does(t, s, 0, insert(5, 0), 9, refused(2))
	does(t, s, 0, remove(7), 10, refused(2))
}

func TestPoolsAreAskedAheadOfTheClock(t *testing.T) { // P8
	s := makeStore(t, api.Config{Kind: api.List, Threads: 1, Nodes: 0, Entries: 9, Limit: 0})
	does(t, s, 0, insert(5, 50), 9, failed(api.ErrFull))
}

func TestWhatWasTakenForNothingComesBack(t *testing.T) { // P8: Take
	c := large()
	c.Limit = 1
	s := makeStore(t, c)
	begin(t, s, 0, insert(5, 50))
	moves(t, s, 0, 7)
	shows(t, s, 8, 37, 0)
	moves(t, s, 0, 1) // the clock is at its limit behind it
	ends(t, s, 0, 4, did(0, 1))
	begin(t, s, 0, insert(3, 30))
	moves(t, s, 0, 7)
	shows(t, s, 7, 35, 1)
	moves(t, s, 0, 1)
	shows(t, s, 8, 37, 1)
	ends(t, s, 0, 2, failed(api.ErrClock))
	begin(t, s, 0, remove(5))
	moves(t, s, 0, 8)
	shows(t, s, 8, 36, 1)
	moves(t, s, 0, 1)
	shows(t, s, 8, 37, 1)
	ends(t, s, 0, 2, failed(api.ErrClock))
	does(t, s, 0, insert(5, 0), 8, refused(1)) // it is still there
}

func TestARefusalHasTheClockOfItsCheck(t *testing.T) { // P8: Check
	s := filled(t, large(), 5, 6)
	begin(t, s, 1, insert(5, 0))
	moves(t, s, 1, 4)
	does(t, s, 0, insert(8, 80), 14, did(0, 3))
	moves(t, s, 1, 2) // Lock, Check
	does(t, s, 0, remove(8), 16, did(80, 4))
	ends(t, s, 1, 2, refused(3))
}

func TestADeadNodeIsNotLinkedTo(t *testing.T) { // P8: Check: the node at which the walk stood is dead
	s := filled(t, large(), 5, 9)
	begin(t, s, 1, insert(7, 70))
	moves(t, s, 1, 5) // the walk is over: it stands at 5
	does(t, s, 0, remove(5), 14, did(50, 3))
	moves(t, s, 1, 2) // Lock, Check: a new walk
	ends(t, s, 1, 9, did(0, 4))
	does(t, s, 2, remove(7), 14, did(70, 5))
}

func TestTwoTakeOutNeighbours(t *testing.T) { // P8
	s := filled(t, large(), 5, 6, 7)
	begin(t, s, 0, remove(5))
	begin(t, s, 1, remove(6))
	moves(t, s, 0, 6) // it has the locks of the anchor and of 5
	moves(t, s, 1, 5)
	waits(t, s, 1)
	ends(t, s, 0, 8, did(50, 4))
	moves(t, s, 1, 3) // two locks; Check: 5 is dead
	ends(t, s, 1, 11, did(60, 5))
	does(t, s, 2, remove(7), 14, did(70, 6))
}

func TestTheSecondLockIsWaitedFor(t *testing.T) { // P8: Lock
	s := filled(t, large(), 5)
	begin(t, s, 0, insert(6, 60))
	moves(t, s, 0, 6) // it has the lock of 5
	begin(t, s, 1, remove(5))
	moves(t, s, 1, 5) // it has the anchor's lock
	waits(t, s, 1)
	begin(t, s, 2, insert(2, 20))
	moves(t, s, 2, 4)
	waits(t, s, 2) // for the anchor's, which a waiting thread keeps
	ends(t, s, 0, 7, did(0, 2))
	ends(t, s, 1, 9, did(50, 3))
	run(t, s, 2)
	answers(t, s, 2, did(0, 4))
	does(t, s, 0, remove(6), 15, did(60, 5)) // 2 and 6 are there
}

func TestAWalkGoesByWhatLinksLeadToNow(t *testing.T) { // P8: Walk, Link
	s := filled(t, large(), 5)
	begin(t, s, 0, insert(3, 30))
	moves(t, s, 0, 8) // Take: not linked yet
	begin(t, s, 1, remove(5))
	moves(t, s, 1, 4) // the anchor leads to 5
	waits(t, s, 1)
	moves(t, s, 0, 1) // Link
	begin(t, s, 2, remove(5))
	moves(t, s, 2, 5) // the anchor leads to 3, and 3 to 5
	ends(t, s, 2, 10, did(50, 3))
	ends(t, s, 0, 3, did(0, 2))
	moves(t, s, 1, 3)
	ends(t, s, 1, 6, refused(3))
}
