package bundle_test

import (
	"testing"

	"bundle/api"
)

func TestAReadWaitsOnlyAtAPendingLinkOfATree(t *testing.T) { // P11: the link that it follows, not the node's other one
	s := filled(t, largeTree(), 5, 9)
	begin(t, s, 0, insert(7, 70))
	moves(t, s, 0, 9)                       // Prepare: link 0 of the node with the key 9 has a pending entry
	does(t, s, 1, lookup(9), 7, did(90, 2)) // by link 1
	does(t, s, 1, lookup(api.MaxKey), 7, refused(2))
	does(t, s, 1, scan(span(9, 99)), 7, seen(2, pairs(9)))
	begin(t, s, 1, lookup(5))
	begin(t, s, 2, scan(span(0, 99)))
	moves(t, s, 1, 5)
	moves(t, s, 2, 5)
	for range 3 { // ahead of Take, Link and Stamp
		waits(t, s, 1)
		waits(t, s, 2)
		moves(t, s, 0, 1)
	}
	ends(t, s, 1, 2, did(50, 2))
	ends(t, s, 2, 3, seen(2, pairs(5, 9))) // its time is 2
	ends(t, s, 0, 2, did(0, 3))
	does(t, s, 2, scan(span(0, 99)), 10, seen(3, pairs(5, 7, 9)))
}

func TestAScanWaitsInTheMiddle(t *testing.T) { // P11: a link that stands further behind is waited for when it is the first
	s := filled(t, largeTree(), 5, 9)
	begin(t, s, 0, insert(12, 120))
	moves(t, s, 0, 9) // Prepare: link 1 of the node with the key 9 has a pending entry
	does(t, s, 1, scan(span(0, 8)), 7, seen(2, pairs(5)))
	does(t, s, 1, lookup(5), 7, did(50, 2))
	begin(t, s, 1, scan(span(0, 99)))
	moves(t, s, 1, 6) // it has noted 5
	for range 3 {
		waits(t, s, 1)
		moves(t, s, 0, 1)
	}
	ends(t, s, 1, 2, seen(2, pairs(5, 9)))
	ends(t, s, 0, 2, did(0, 3))
}

func TestAReadWaitsForARemoveInATree(t *testing.T) { // P11: at g's link
	for _, op := range []api.Op{lookup(5), lookup(9), lookup(7), scan(span(0, 99))} {
		s := filled(t, largeTree(), 5, 9)
		begin(t, s, 0, remove(5))
		moves(t, s, 0, 10) // Prepare: g is the uppermost node
		begin(t, s, 1, op)
		moves(t, s, 1, 4)
		for range 4 { // ahead of Take, Kill, Link and Stamp
			waits(t, s, 1)
			moves(t, s, 0, 1)
		}
		run(t, s, 1)
		ends(t, s, 0, 2, did(50, 3))
		if op.Kind == api.Scan {
			answers(t, s, 1, seen(2, pairs(5, 9)))
		} else if op.Key == 7 {
			answers(t, s, 1, refused(2))
		} else {
			answers(t, s, 1, did(10*op.Key, 2))
		}
	}
	s := left(t)
	begin(t, s, 0, remove(5))
	moves(t, s, 0, 11)                      // Prepare: g is the node with the key 9
	does(t, s, 1, lookup(9), 7, did(90, 3)) // by its other link
	does(t, s, 1, scan(span(9, 9)), 7, seen(3, pairs(9)))
	begin(t, s, 1, lookup(7))
	moves(t, s, 1, 5)
	waits(t, s, 1)
}

func TestAReadOfATreeSeesWhatWasTakenAheadOfItsTime(t *testing.T) { // P11: Take is what counts
	s := filled(t, largeTree(), 5, 9)
	begin(t, s, 0, insert(7, 70))
	moves(t, s, 0, 10) // Take
	begin(t, s, 1, lookup(7))
	moves(t, s, 1, 5)
	waits(t, s, 1)
	moves(t, s, 0, 2) // Link, Stamp
	ends(t, s, 1, 3, did(70, 3))
	ends(t, s, 0, 2, did(0, 3))
	begin(t, s, 0, remove(9))
	moves(t, s, 0, 11) // Take
	begin(t, s, 1, lookup(9))
	begin(t, s, 2, scan(span(0, 99)))
	moves(t, s, 1, 4)
	moves(t, s, 2, 4)
	waits(t, s, 1)
	waits(t, s, 2)
	moves(t, s, 0, 3) // Kill, Link, Stamp
	ends(t, s, 1, 3, refused(4))
	ends(t, s, 2, 4, seen(4, pairs(5, 7)))
	ends(t, s, 0, 2, did(90, 4))
}

func TestBothLinksOfANewNodeHaveItsStamp(t *testing.T) { // P11: Take: another thread goes on below it ahead of the pending entry's stamp
	for _, key := range []int{6, 8} {
		s := filled(t, largeTree(), 5, 9)
		begin(t, s, 0, insert(7, 70))
		moves(t, s, 0, 11) // Link: the new node leads to 5 and 7
		does(t, s, 2, insert(key, 10*key), 15, did(0, 4))
		begin(t, s, 1, lookup(key))
		moves(t, s, 1, 5)
		waits(t, s, 1)
		begin(t, s, 2, scan(span(0, 99)))
		moves(t, s, 2, 5)
		waits(t, s, 2)
		moves(t, s, 0, 1) // Stamp
		ends(t, s, 1, 4, did(10*key, 4))
		ends(t, s, 0, 2, did(0, 3))
		want := pairs(5, 6, 7, 9)
		if key == 8 {
			want = pairs(5, 7, 8, 9)
		}
		ends(t, s, 2, 7, seen(4, want))
	}
}

func TestAReadOfATreeSeesItAtItsTime(t *testing.T) { // P11, P12: whatever is changed meanwhile, with sweeps or without
	want := []api.Answer{seen(3, pairs(5, 7, 9)), seen(3, pairs(7, 9), pairs(5)), did(90, 3), did(50, 3), refused(3)}
	for i, op := range []api.Op{scan(span(0, 99)), scan(span(6, 99), span(0, 5)), lookup(9), lookup(5), lookup(8)} {
		for made := 3; made < 7; made++ {
			for _, isSwept := range []bool{false, true} {
				s := left(t)
				begin(t, s, 1, op)
				moves(t, s, 1, made)
				for key := 5; key <= 9; key += 2 {
					for _, update := range []api.Op{remove(key), insert(key-1, -key)} {
						begin(t, s, 0, update)
						run(t, s, 0)
						if isSwept {
							sweepEnds(t, s, 6)
						}
					}
				}
				run(t, s, 1)
				answers(t, s, 1, want[i])
				sweepEnds(t, s, 6)
				shows(t, s, 14, 83, 9)
			}
		}
	}
}

func TestAScanFollowsLinksOfDeadNodes(t *testing.T) { // P11
	s := left(t)
	begin(t, s, 1, scan(span(0, 99)))
	moves(t, s, 1, 5) // both links of the node with the key 9 are to be followed
	does(t, s, 0, remove(9), 16, did(90, 4))
	does(t, s, 0, remove(5), 16, did(50, 5))
	does(t, s, 0, insert(8, 80), 13, did(0, 6))
	ends(t, s, 1, 5, seen(3, pairs(5, 7, 9)))
	does(t, s, 1, scan(span(0, 99)), 8, seen(6, pairs(7, 8)))
}

func TestAReadTakesNoLockInATree(t *testing.T) { // P9, P11
	s := filled(t, largeTree(), 5, 9)
	begin(t, s, 1, remove(9))
	moves(t, s, 1, 8) // it has the locks
	begin(t, s, 0, scan(span(0, 9)))
	moves(t, s, 0, 7) // the walk is over
	ends(t, s, 1, 8, did(90, 3))
	does(t, s, 1, insert(4, 40), 13, did(0, 4))
	ends(t, s, 0, 1, seen(2, pairs(5, 9)))
}

func TestAReadGoesOnBehindErrClockInATree(t *testing.T) { // P11: no pending entry stays
	c := largeTree()
	c.Limit = 1
	for _, op := range []api.Op{insert(3, 30), remove(5)} {
		s := filled(t, c, 5)
		begin(t, s, 0, op)
		first := 4 // it waits at the uppermost node's link
		count := 8
		if op.Kind == api.Remove {
			first = 3 // at the anchor's
			count = 9
		}
		moves(t, s, 0, count) // Prepare
		begin(t, s, 1, scan(span(0, 9)))
		moves(t, s, 1, first)
		waits(t, s, 1)
		moves(t, s, 0, 1) // Take
		ends(t, s, 1, 6-first, seen(1, pairs(5)))
		ends(t, s, 0, 2, failed(api.ErrClock))
	}
}

func TestARefusalInATreeHasTheClockOfItsCheck(t *testing.T) { // P8, P11
	s := bent(t)
	begin(t, s, 1, insert(2, 0))
	moves(t, s, 1, 6)
	does(t, s, 0, insert(7, 70), 15, did(0, 4))
	moves(t, s, 1, 2) // Lock, Check
	does(t, s, 0, remove(7), 18, did(70, 5))
	ends(t, s, 1, 2, refused(4))
}
