package bundle_test

import (
	"testing"

	"bundle/api"
)

func TestWhatEachStepOfASweepDoesInATree(t *testing.T) { // P10, P11: entries of both links, and both nodes that were killed
	s := filled(t, largeTree(), 5, 9)
	does(t, s, 1, remove(5), 16, did(50, 3))
	sweeps(t, s, 4) // Begin, and a look at each slot
	shows(t, s, 16, 82, 3)
	sweeps(t, s, 1) // Drop: one entry of the anchor, two of the uppermost node
	shows(t, s, 16, 85, 3)
	sweepEnds(t, s, 1) // Free: the leaf, and the node above it with its two entries
	shows(t, s, 18, 87, 3)
	sweepEnds(t, s, 6)
	shows(t, s, 18, 87, 3)
}

func TestTheLinksOfANodeAreSweptApart(t *testing.T) { // P10, P11: a link's entry goes for the sake of that link's own
	s := bent(t)
	does(t, s, 0, insert(5, 50), 15, did(0, 4))
	does(t, s, 0, insert(1, 10), 14, did(0, 5))
	shows(t, s, 10, 74, 5)
	begin(t, s, 1, lookup(6))
	moves(t, s, 1, 3) // it says 5
	does(t, s, 0, remove(5), 18, did(50, 6))
	does(t, s, 0, remove(6), 17, did(60, 7))
	shows(t, s, 10, 72, 7)
	sweepEnds(t, s, 6) // the anchor's 0; the uppermost node's 1; of the next node's links 2 and 2; link 0's of the node with the key 6
	shows(t, s, 10, 77, 7)
	ends(t, s, 1, 5, did(60, 5))
	sweepEnds(t, s, 6)
	shows(t, s, 14, 83, 7)
	does(t, s, 0, scan(span(0, 99)), 10, seen(7, pairs(1, 2, 4)))
}

func TestTheRetiredTimeInATreeIsTheClockAtUnlock(t *testing.T) { // P8, P10, P11
	s := filled(t, largeTree(), 4, 2, 6, 8)
	begin(t, s, 0, remove(8))
	moves(t, s, 0, 16) // Stamp: its stamp is 5
	does(t, s, 2, insert(1, 10), 14, did(0, 6))
	begin(t, s, 1, lookup(1))
	moves(t, s, 1, 3)            // it says 6
	ends(t, s, 0, 2, did(80, 5)) // Unlock, with the clock at 6
	shows(t, s, 10, 73, 6)
	sweepEnds(t, s, 6)
	shows(t, s, 10, 79, 6)
	ends(t, s, 1, 5, did(10, 6))
	sweepEnds(t, s, 6)
	shows(t, s, 12, 81, 6)
}

func TestASweepBesideAnUpdateInATree(t *testing.T) { // P10, P11: at each of its steps; pending entries stay
	for _, c := range []struct {
		op            api.Op
		steps         int
		nodes, before int // in the pools behind the update, swept
	}{{insert(7, 70), 14, 14, 83}, {remove(5), 16, 18, 87}, {remove(9), 16, 18, 87}, {insert(5, 0), 10, 16, 85}, {remove(7), 10, 16, 85}} {
		for made := range c.steps {
			s := filled(t, largeTree(), 5, 9)
			begin(t, s, 0, c.op)
			moves(t, s, 0, made)
			if made == 1 || made == 2 { // its slot says coming
				sweeps(t, s, 1)
				sweepWaits(t, s)
				moves(t, s, 0, 3-made)
				made = 3
				sweepEnds(t, s, 5)
			} else {
				sweepEnds(t, s, 6)
				sweepEnds(t, s, 6)
			}
			moves(t, s, 0, c.steps-made-1)
			step(t, s, 0, api.Ended)
			sweepEnds(t, s, 6)
			shows(t, s, c.nodes, c.before, s.Clock())
		}
	}
}

func TestAnUpdateOfATreeGoesOnBesideSweeps(t *testing.T) { // P10, P11, P12: nodes that its walk found are not used again under it
	for _, op := range []api.Op{insert(6, 60), remove(6), insert(5, 60), remove(5)} {
		for made := 3; made <= 7; made++ {
			s := left(t)
			begin(t, s, 1, op)
			moves(t, s, 1, made)
			for i, update := range []api.Op{remove(9), insert(10, 100), remove(7), insert(8, 80), remove(5), insert(4, 40)} {
				begin(t, s, 0, update)
				run(t, s, 0)
				answers(t, s, 0, api.Answer{Did: true, Value: pick(i, 90, 0, 70, 0, 50, 0), Stamp: 4 + i})
				sweepEnds(t, s, 6)
			}
			run(t, s, 1)
			keys := pairs(4, 8, 10)
			if op.Kind == api.Remove {
				answers(t, s, 1, refused(9))
			} else {
				answers(t, s, 1, did(0, 10))
				keys = []api.Pair{{Key: 4, Value: 40}, {Key: op.Key, Value: 60}, {Key: 8, Value: 80}, {Key: 10, Value: 100}}
			}
			begin(t, s, 0, scan(span(0, 99)))
			run(t, s, 0)
			answers(t, s, 0, seen(s.Clock(), keys))
			sweepEnds(t, s, 6)
			shows(t, s, 20-2*len(keys), 89-2*len(keys), s.Clock())
		}
	}
}

func TestEightThreadsInATreeStepInTurn(t *testing.T) { // P13
	const threads = api.MaxThreads
	c := api.Config{Kind: api.Tree, Threads: threads, Nodes: 24, Entries: 200, Limit: 1000}
	for _, keys := range [][]int{{5}, {5, 6}, {5, 6, 7, 8}, {1, 2, 3, 4, 5, 6, 7, 8}} {
		s := filled(t, c, keys...)
		for thread := range threads {
			key := pick(thread, keys...)
			begin(t, s, thread, []api.Op{remove(key), insert(key, 1), scan(span(0, 99)), remove(key)}[thread%4])
		}
		busy := threads
		for turn := 0; busy > 0; turn++ {
			moved := 0
			for thread := range threads {
				how, e := s.Step(thread)
				if e == api.OK && how != api.Waited {
					moved++
				}
				if how == api.Ended {
					busy--
				}
			}
			if moved == 0 || turn > threads*(threads+2)*(c.Nodes+16) {
				t.Fatalf("keys %v: in turn %d %d threads have moved", keys, turn, moved)
			}
		}
	}
}
