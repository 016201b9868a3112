package bundle_test

import (
	"testing"

	"bundle/api"
	"bundle/bundle"
)

func TestHowManyStepsASweepHas(t *testing.T) { // P10: three, and one for each thread; then a new one begins
	for _, kind := range []int{api.List, api.Tree} {
		for threads := 1; threads <= api.MaxThreads; threads++ {
			s := makeStore(t, api.Config{Kind: kind, Threads: threads, Nodes: 4, Entries: 9, Limit: 100})
			for range 3 {
				sweepEnds(t, s, threads+3)
				shows(t, s, 4, 8, 0)
			}
		}
	}
}

func TestSweepOfTheSmallestStore(t *testing.T) { // P1, P10
	s := makeStore(t, api.Config{Kind: api.List, Threads: 1, Nodes: 0, Entries: 1, Limit: 0})
	for range 2 {
		sweepEnds(t, s, 4)
		shows(t, s, 0, 0, 0)
		does(t, s, 0, insert(5, 50), 9, failed(api.ErrFull))
		does(t, s, 0, scan(span(0, api.MaxKey)), 5, seen(0, nil))
	}
}

func TestWhatEachStepOfASweepDoes(t *testing.T) { // P10
	s := filled(t, large(), 5, 9)
	does(t, s, 1, remove(5), 14, did(50, 3))
	sweeps(t, s, 4) // Begin, and a look at each slot
	shows(t, s, 7, 34, 3)
	sweeps(t, s, 1) // Drop: two entries of the anchor, one of the retired node
	shows(t, s, 7, 37, 3)
	sweepEnds(t, s, 1) // Free: the node and its entry
	shows(t, s, 8, 38, 3)
	sweepEnds(t, s, 6)
	shows(t, s, 8, 38, 3)
}

func TestASlotThatSaysComingStopsTheSweep(t *testing.T) { // P10: at its own step, and at no other
	for _, op := range []api.Op{insert(5, 50), remove(5), lookup(5), scan(span(0, 9))} {
		for thread := range 3 {
			s := makeStore(t, large())
			begin(t, s, thread, op)
			moves(t, s, thread, 1) // Come
			sweeps(t, s, 1+thread)
			sweepWaits(t, s)
			sweepWaits(t, s)
			moves(t, s, thread, 1) // Read
			sweepWaits(t, s)
			moves(t, s, thread, 1) // Announce
			sweeps(t, s, 4-thread)
			sweepEnds(t, s, 1)
			run(t, s, thread)
		}
	}
}

func TestASweepWaitsForOneSlotAfterAnother(t *testing.T) { // P10: in the order of their numbers
	s := makeStore(t, large())
	for _, thread := range []int{2, 0, 1} {
		begin(t, s, thread, lookup(5))
		moves(t, s, thread, 1)
	}
	sweeps(t, s, 1)
	sweepWaits(t, s)
	moves(t, s, 2, 2)
	moves(t, s, 1, 2)
	sweepWaits(t, s)
	moves(t, s, 0, 2)
	sweeps(t, s, 3)
	sweepEnds(t, s, 2)
}

func TestASlotBehindTheSweepsLookIsNothingToIt(t *testing.T) { // P10
	s := filled(t, large(), 5)
	does(t, s, 0, remove(5), 14, did(50, 2))
	sweeps(t, s, 2) // Begin, and the look at thread 0
	begin(t, s, 0, lookup(5))
	moves(t, s, 0, 1) // coming
	sweeps(t, s, 1)
	moves(t, s, 0, 2) // it says 2, which is the retired time
	sweepEnds(t, s, 3)
	shows(t, s, 9, 39, 2)
	ends(t, s, 0, 2, refused(2))
}

func TestASlotThatWasIdleAgainIsNothingToTheSweep(t *testing.T) { // P10: the look alone counts
	s := filled(t, large(), 5)
	begin(t, s, 1, lookup(5))
	moves(t, s, 1, 3) // it says 1
	does(t, s, 0, remove(5), 14, did(50, 2))
	sweeps(t, s, 2)
	ends(t, s, 1, 2, did(50, 1))
	sweepEnds(t, s, 4)
	shows(t, s, 9, 39, 2)
}

func TestANotedTimeStaysNoted(t *testing.T) { // P10: though the thread has ended meanwhile
	s := filled(t, large(), 5)
	begin(t, s, 1, lookup(5))
	moves(t, s, 1, 3) // it says 1
	does(t, s, 0, remove(5), 14, did(50, 2))
	shows(t, s, 8, 36, 2)
	sweeps(t, s, 3)
	ends(t, s, 1, 2, did(50, 1))
	does(t, s, 1, lookup(5), 5, refused(2))
	sweeps(t, s, 2)
	shows(t, s, 8, 37, 2) // the anchor's first entry
	sweepEnds(t, s, 1)
	shows(t, s, 8, 37, 2)
	sweepEnds(t, s, 6) // the next sweep knows nothing of it
	shows(t, s, 9, 39, 2)
}

func TestTimesNextToTheRetiredTime(t *testing.T) { // P10: what is taken out with 5 is retired with the time 3
	for _, c := range []struct {
		config                         api.Config
		time, dropped, nodes, entries  int
		nodesBefore, before, atTheLast int
	}{
		{large(), 2, 34, 6, 34, 6, 32, 37}, {large(), 3, 35, 6, 35, 6, 32, 37}, {large(), 4, 36, 7, 37, 6, 32, 37},
		{largeTree(), 2, 81, 14, 81, 14, 79, 85}, {largeTree(), 3, 82, 14, 82, 14, 79, 85}, {largeTree(), 4, 83, 16, 85, 14, 79, 85},
	} {
		for _, op := range []api.Op{lookup(9), scan(span(9, 9)), insert(9, 0), remove(8)} {
			s := filled(t, c.config, 5, 9)
			begin(t, s, 1, op)
			for time := 2; time <= 4; time++ {
				if time == 3 {
					begin(t, s, 0, remove(5))
					run(t, s, 0)
				} else if time == 4 {
					begin(t, s, 0, insert(12, 120))
					run(t, s, 0)
				}
				if time == c.time {
					moves(t, s, 1, 3)
				}
			}
			shows(t, s, c.nodesBefore, c.before, 4)
			sweeps(t, s, 5)
			shows(t, s, c.nodesBefore, c.dropped, 4)
			sweepEnds(t, s, 1)
			shows(t, s, c.nodes, c.entries, 4)
			run(t, s, 1)
			sweepEnds(t, s, 6)
			shows(t, s, c.nodesBefore+1+c.config.Kind, c.atTheLast, 4)
		}
	}
}

func TestTheRetiredTimeIsTheClockAtUnlock(t *testing.T) { // P8, P10
	s := filled(t, large(), 5, 7)
	begin(t, s, 0, remove(5))
	moves(t, s, 0, 12) // Stamp: its stamp is 3
	does(t, s, 2, insert(9, 90), 13, did(0, 4))
	begin(t, s, 1, lookup(1))
	moves(t, s, 1, 3)            // it says 4
	ends(t, s, 0, 2, did(50, 3)) // Unlock, with the clock at 4
	sweepEnds(t, s, 6)
	shows(t, s, 6, 36, 4)
	ends(t, s, 1, 2, refused(4))
	sweepEnds(t, s, 6)
	shows(t, s, 7, 37, 4)
}

func TestTheLeastOfAllTimesCounts(t *testing.T) { // P10
	for _, order := range [][]int{{0, 1, 2}, {0, 2, 1}, {1, 0, 2}, {1, 2, 0}, {2, 0, 1}, {2, 1, 0}} {
		c := large()
		c.Threads = 4
		s := filled(t, c, 5, 9)
		updates := []api.Op{remove(5), insert(12, 120), remove(12)} // retired with the times 3 and 5
		for i, thread := range order {                              // they say 2, 3 and 4
			begin(t, s, thread, lookup(9))
			moves(t, s, thread, 3)
			begin(t, s, 3, updates[i])
			run(t, s, 3)
		}
		shows(t, s, 6, 31, 5)
		for i, room := range [][]int{{6, 33}, {6, 34}, {7, 36}} {
			sweepEnds(t, s, 7)
			shows(t, s, room[0], room[1], 5)
			run(t, s, order[i])
		}
		sweepEnds(t, s, 7)
		shows(t, s, 8, 38, 5)
	}
}

func TestTheClockOfTheSweepsBeginning(t *testing.T) { // P10: what is later tells nothing of e
	s := filled(t, large(), 5)
	sweeps(t, s, 1)
	does(t, s, 0, insert(3, 30), 12, did(0, 2))
	does(t, s, 0, insert(2, 20), 12, did(0, 3))
	shows(t, s, 6, 33, 3)
	sweepEnds(t, s, 5) // the anchor has 0, 1, 2 and 3
	shows(t, s, 6, 34, 3)
	sweeps(t, s, 4)
	does(t, s, 0, insert(1, 10), 12, did(0, 4))
	shows(t, s, 5, 32, 4)
	sweeps(t, s, 1) // 3 and 4 stay
	shows(t, s, 5, 34, 4)
	sweepEnds(t, s, 1)
	sweepEnds(t, s, 6)
	shows(t, s, 5, 35, 4)
}

func TestATimeAboveTheClockOfTheBeginning(t *testing.T) { // P10: e is that clock, and the node is freed
	s := filled(t, large(), 5)
	does(t, s, 0, remove(5), 14, did(50, 2))
	sweeps(t, s, 1)
	does(t, s, 0, insert(7, 70), 12, did(0, 3))
	begin(t, s, 1, lookup(7))
	moves(t, s, 1, 3) // it says 3
	shows(t, s, 7, 34, 3)
	sweeps(t, s, 4)
	shows(t, s, 7, 36, 3) // of the anchor's entries 2 and 3 stay
	sweepEnds(t, s, 1)
	shows(t, s, 8, 37, 3)
	ends(t, s, 1, 2, did(70, 3))
}

func TestAReadBehindTheSweepsLookKeepsItsTime(t *testing.T) { // P10, P12
	s := filled(t, large(), 5)
	sweeps(t, s, 2)
	begin(t, s, 0, scan(span(0, 9)))
	moves(t, s, 0, 3) // it says 1, as the sweep's clock does
	does(t, s, 1, remove(5), 14, did(50, 2))
	does(t, s, 1, insert(6, 60), 12, did(0, 3))
	sweepEnds(t, s, 4)
	ends(t, s, 0, 3, seen(1, pairs(5)))
}

func TestANodeThatIsRetiredBehindTheBeginning(t *testing.T) { // P10: it is left to the next sweep, at whatever step it was at the beginning
	for _, c := range []api.Config{large(), largeTree()} {
		steps := 14 + c.Kind
		for made := range steps {
			s := filled(t, c, 5)
			begin(t, s, 0, remove(5))
			moves(t, s, 0, made)
			sweeps(t, s, 1)
			ends(t, s, 0, steps-made, did(50, 2))
			sweeps(t, s, 4)
			sweepEnds(t, s, 1)
			nodes, entries := c.Nodes-1-c.Kind, c.Entries-3-c.Kind
			if made == steps-1 { // it was retired
				nodes, entries = c.Nodes, c.Entries-1
			} else if made >= steps-5 { // the clock was 2
				entries++
			}
			shows(t, s, nodes, entries, 2)
			sweepEnds(t, s, 6)
			shows(t, s, c.Nodes, c.Entries-1, 2)
		}
	}
}

func TestANodeRetiredLaterWithTheSameTimeIsSpared(t *testing.T) { // P10: a thread that came behind the look at its slot stands at it
	s := filled(t, large(), 3, 5, 7, 9)
	begin(t, s, 1, remove(3))
	moves(t, s, 1, 12) // Stamp
	begin(t, s, 2, remove(7))
	moves(t, s, 2, 10)           // Take: the clock is 6
	ends(t, s, 1, 2, did(30, 5)) // 3 is retired with the time 6
	sweeps(t, s, 2)              // Begin, and the look at thread 0
	begin(t, s, 0, insert(8, 80))
	moves(t, s, 0, 5)            // it stands at 7
	ends(t, s, 2, 5, did(70, 6)) // 7 too is retired with the time 6
	shows(t, s, 5, 29, 6)
	sweepEnds(t, s, 4)
	shows(t, s, 6, 36, 6)
	ends(t, s, 0, 13, did(0, 7)) // it finds 7 dead, and walks anew
	sweepEnds(t, s, 6)
	shows(t, s, 6, 36, 7)
}

// prepared: thread 0 has put 5 and 9 in, and thread 1 has so many steps of an Insert of 7 behind it, which took the stamp 3.
func prepared(t *testing.T, made int) *bundle.Store {
	t.Helper()
	s := filled(t, large(), 5, 9)
	begin(t, s, 1, insert(7, 70))
	moves(t, s, 1, made)
	return s
}

func TestPendingEntriesStay(t *testing.T) { // P10: and no other one goes for their sake
	for made := 8; made <= 12; made++ { // Prepare, Take, Link, Stamp, Unlock: 5's link has 1, 2 and the pending one
		s := prepared(t, made)
		clock := 3
		if made == 8 {
			clock = 2
		}
		shows(t, s, 6, 33, clock)
		for range 2 {
			sweepEnds(t, s, 6) // thread 1 says 2: the anchor's 0 and 5's 1 go
			shows(t, s, 6, 35, clock)
		}
		ends(t, s, 1, 13-made, did(0, 3))
		does(t, s, 0, scan(span(0, 99)), 8, seen(3, pairs(5, 7, 9)))
		sweepEnds(t, s, 6)
		shows(t, s, 6, 36, 3)
	}
}

func TestTheLinkOfANewNodeIsSwept(t *testing.T) { // P10: another thread has turned it ahead of the pending entry's stamp
	s := prepared(t, 10) // Link
	does(t, s, 0, insert(8, 80), 14, did(0, 4))
	shows(t, s, 5, 31, 4)
	sweepEnds(t, s, 6) // thread 1 says 2
	shows(t, s, 5, 33, 4)
	ends(t, s, 1, 3, did(0, 3))
	does(t, s, 0, scan(span(0, 99)), 9, seen(4, pairs(5, 7, 8, 9)))
	sweepEnds(t, s, 6)
	shows(t, s, 5, 35, 4)
}

func TestEntriesOfADeadNodeAreSwept(t *testing.T) { // P10: dead, and not retired yet
	s := filled(t, large(), 5, 9)
	begin(t, s, 0, remove(5))
	moves(t, s, 0, 10) // Kill
	shows(t, s, 7, 34, 3)
	sweepEnds(t, s, 6) // the anchor's 0 and 5's 1
	shows(t, s, 7, 36, 3)
	ends(t, s, 0, 4, did(50, 3))
	sweepEnds(t, s, 6)
	shows(t, s, 8, 38, 3)
}

func TestWhatIsTakenForNothingComesBackBehindASweep(t *testing.T) { // P8, P10
	c := large()
	c.Limit = 2
	for _, op := range []api.Op{insert(7, 70), remove(9)} {
		s := filled(t, c, 5, 9)
		begin(t, s, 1, op)
		made := 8
		if op.Kind == api.Remove {
			made = 9
		}
		moves(t, s, 1, made) // Prepare
		sweepEnds(t, s, 6)
		sweeps(t, s, 4)
		moves(t, s, 1, 1) // Take
		shows(t, s, 7, 37, 2)
		sweepEnds(t, s, 2)
		ends(t, s, 1, 2, failed(api.ErrClock))
		shows(t, s, 7, 37, 2)
		does(t, s, 0, scan(span(0, 99)), 7, seen(2, pairs(5, 9)))
	}
}

func TestNodesAndEntriesAreUsedAgain(t *testing.T) { // P10: what one key needs is enough, if it is swept
	for _, kind := range kinds {
		s := makeStore(t, api.Config{Kind: kind, Threads: 1, Nodes: 1 + kind, Entries: 4 + kind, Limit: 1000})
		for i := range 100 {
			key := pick(i, 5, 0, api.MaxKey, 7)
			does(t, s, 0, insert(key, i), 12, did(0, 2*i+1))
			does(t, s, 0, lookup(key), 5+kind, did(i, 2*i+1))
			does(t, s, 0, remove(key), 14+kind, did(i, 2*i+2))
			does(t, s, 0, lookup(key), 5, refused(2*i+2))
			does(t, s, 0, insert(9, 90), 9, failed(api.ErrFull))
			sweepEnds(t, s, 4)
			shows(t, s, 1+kind, 3+kind, 2*i+2)
		}
	}
}

func TestReadsGoOnBesideSweeps(t *testing.T) { // P10, P12: whatever is taken out and used again meanwhile
	want := []api.Answer{seen(3, pairs(5, 7, 9)), did(90, 3), refused(3)}
	for i, op := range []api.Op{scan(span(0, 99)), lookup(9), lookup(8)} {
		for made := 3; made < 7; made++ {
			s := filled(t, large(), 5, 7, 9)
			begin(t, s, 1, op)
			moves(t, s, 1, made)
			for key := 5; key <= 9; key += 2 {
				begin(t, s, 0, remove(key))
				run(t, s, 0)
				sweepEnds(t, s, 6)
				begin(t, s, 0, insert(key-1, -key))
				run(t, s, 0)
				sweepEnds(t, s, 6)
			}
			run(t, s, 1)
			answers(t, s, 1, want[i])
			sweepEnds(t, s, 6)
			shows(t, s, 6, 36, 9)
		}
	}
}

func TestAnUpdateGoesOnBesideSweeps(t *testing.T) { // P10, P12: nodes that its walk found are not used again under it
	for made := 3; made <= 6; made++ { // Announce, and three steps of a walk: to 3, to 5, and no further
		s := filled(t, large(), 3, 5, 9)
		begin(t, s, 1, insert(7, 70))
		moves(t, s, 1, made)
		does(t, s, 0, remove(5), 15, did(50, 4))
		sweepEnds(t, s, 6)
		does(t, s, 0, insert(6, 60), 13, did(0, 5))
		does(t, s, 0, remove(3), 14, did(30, 6))
		sweepEnds(t, s, 6)
		does(t, s, 0, insert(8, 80), 13, did(0, 7))
		shows(t, s, 4, 30, 7)
		run(t, s, 1)
		answers(t, s, 1, did(0, 8))
		does(t, s, 0, scan(span(0, 99)), 9, seen(8, pairs(6, 7, 8, 9)))
		sweepEnds(t, s, 6)
		shows(t, s, 5, 35, 8)
	}
}

func TestASweepDelaysNoThread(t *testing.T) { // P13: a thread alone never waits, whatever step the sweep is at
	for ahead := range 6 {
		for _, c := range []struct {
			config api.Config
			steps  []int
		}{{large(), []int{14, 12, 15, 5, 6}}, {largeTree(), []int{16, 13, 16, 6, 6}}} {
			s := filled(t, c.config, 5, 9)
			does(t, s, 1, remove(5), c.steps[0], did(50, 3))
			sweeps(t, s, ahead)
			does(t, s, 2, insert(5, 55), c.steps[1], did(0, 4))
			does(t, s, 2, remove(9), c.steps[2], did(90, 5))
			does(t, s, 2, lookup(5), c.steps[3], did(55, 5))
			does(t, s, 2, scan(span(0, 9)), c.steps[4], seen(5, []api.Pair{{Key: 5, Value: 55}}))
		}
	}
}

func TestAWholeSweepLeavesWhatTheKeysNeed(t *testing.T) { // P14: in a list n nodes and n + 1 entries, in a tree 2n and 2n + 1
	for _, kind := range kinds {
		s := makeStore(t, api.Config{Kind: kind, Threads: 2, Nodes: api.MaxNodes, Entries: api.MaxEntries, Limit: 1000})
		clock := 0
		for keys := 1; keys <= 28; keys++ {
			for key := range keys {
				begin(t, s, key%2, insert(key*11%29, key))
				run(t, s, key%2)
			}
			clock += keys
			sweepEnds(t, s, 5)
			needed := keys * (1 + kind)
			shows(t, s, api.MaxNodes-needed, api.MaxEntries-needed-1, clock)
			for key := range keys {
				begin(t, s, 0, remove(pick(keys, key, keys-1-key)*11%29))
				run(t, s, 0)
			}
			clock += keys
			sweepEnds(t, s, 5)
			shows(t, s, api.MaxNodes, api.MaxEntries-1, clock)
		}
	}
}

func TestSweepOfAFullStore(t *testing.T) { // P14
	s, keys := full(t)
	shows(t, s, 0, 127, 64)
	sweepEnds(t, s, 4)
	shows(t, s, 0, 191, 64)
	does(t, s, 0, scan(span(0, api.MaxKey)), 69, seen(64, pairs(keys...)))
	for _, key := range keys[:36] {
		begin(t, s, 0, remove(key))
		run(t, s, 0)
	}
	shows(t, s, 0, 155, 100)
	sweepEnds(t, s, 4)
	shows(t, s, 36, 227, 100)
	does(t, s, 0, scan(span(0, api.MaxKey)), 33, seen(100, pairs(keys[36:]...)))
}

func TestSweepsOfStoresKnowNothingOfOneAnother(t *testing.T) { // P2
	a := filled(t, large(), 5)
	b := filled(t, large(), 5)
	does(t, b, 0, remove(5), 14, did(50, 2))
	begin(t, a, 0, lookup(5))
	moves(t, a, 0, 1) // coming
	sweeps(t, a, 1)
	sweepWaits(t, a)
	sweepEnds(t, b, 6)
	shows(t, b, 9, 39, 2)
	shows(t, a, 8, 37, 1)
	sweepWaits(t, a)
	ends(t, a, 0, 4, did(50, 1))
	sweepEnds(t, a, 5)
	shows(t, a, 8, 38, 1)
}
