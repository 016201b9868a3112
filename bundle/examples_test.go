package bundle_test

import (
	"testing"

	"bundle/api"
)

func TestExamples1To4(t *testing.T) { // P6, P7, P8, P9, P10
	s := makeStore(t, small())
	shows(t, s, 4, 8, 0)
	does(t, s, 0, insert(5, 50), 12, did(0, 1))
	shows(t, s, 3, 6, 1)
	does(t, s, 0, insert(5, 51), 8, refused(1))
	shows(t, s, 3, 6, 1)
	does(t, s, 0, insert(9, 90), 13, did(0, 2))
	shows(t, s, 2, 4, 2)
	begin(t, s, 1, lookup(5))
	moves(t, s, 1, 3)
	does(t, s, 0, remove(5), 14, did(50, 3))
	shows(t, s, 2, 3, 3)
	sweepEnds(t, s, 5)
	shows(t, s, 2, 5, 3)
	ends(t, s, 1, 2, did(50, 2))
	shows(t, s, 2, 5, 3)
	sweepEnds(t, s, 5)
	shows(t, s, 3, 7, 3)
}

func TestExample5(t *testing.T) { // P8: the room at each step of an Insert; P9: waiting for a pending entry
	s := makeStore(t, small())
	begin(t, s, 0, insert(5, 50))
	moves(t, s, 0, 6)
	shows(t, s, 4, 8, 0)
	moves(t, s, 0, 1) // Prepare
	shows(t, s, 3, 6, 0)
	begin(t, s, 1, lookup(5))
	moves(t, s, 1, 3)
	waits(t, s, 1)
	moves(t, s, 0, 1) // Take
	shows(t, s, 3, 6, 1)
	waits(t, s, 1)
	moves(t, s, 0, 1) // Link
	waits(t, s, 1)
	moves(t, s, 0, 1) // Stamp
	ends(t, s, 1, 2, refused(0))
	ends(t, s, 0, 2, did(0, 1))
	shows(t, s, 3, 6, 1)
}

func TestExample6(t *testing.T) { // P8: waiting for a lock, and a new walk
	s := makeStore(t, small())
	begin(t, s, 0, insert(5, 50))
	moves(t, s, 0, 5)
	begin(t, s, 1, insert(7, 70))
	moves(t, s, 1, 4)
	for range 6 {
		waits(t, s, 1)
		moves(t, s, 0, 1)
	}
	ends(t, s, 0, 1, did(0, 1))
	moves(t, s, 1, 1)
	moves(t, s, 1, 1)
	ends(t, s, 1, 10, did(0, 2))
}

func TestExample7(t *testing.T) { // P8: the pools or the clock are spent
	c := small()
	c.Nodes = 0
	s := makeStore(t, c)
	does(t, s, 0, insert(5, 50), 9, failed(api.ErrFull))
	shows(t, s, 0, 8, 0)
	c = small()
	c.Limit = 0
	s = makeStore(t, c)
	does(t, s, 0, insert(5, 50), 10, failed(api.ErrClock))
	shows(t, s, 4, 8, 0)
}

func TestExamples8To10(t *testing.T) { // P11
	s := makeStore(t, api.Config{Kind: api.Tree, Threads: 1, Nodes: 6, Entries: 20, Limit: 100})
	shows(t, s, 6, 19, 0)
	does(t, s, 0, insert(5, 50), 12, did(0, 1))
	shows(t, s, 4, 16, 1)
	does(t, s, 0, insert(3, 30), 13, did(0, 2))
	shows(t, s, 2, 13, 2)
	does(t, s, 0, scan(span(0, 10), span(4, 4), span(3, 5)), 8, seen(2, pairs(3, 5), nil, pairs(3, 5)))
	does(t, s, 0, remove(5), 16, did(50, 3))
	shows(t, s, 2, 12, 3)
	sweepEnds(t, s, 4)
	shows(t, s, 4, 17, 3)
}
