package bundle_test

import (
	"testing"

	"bundle/api"
	"bundle/bundle"
)

func largeTree() api.Config {
	return api.Config{Kind: api.Tree, Threads: 3, Nodes: 20, Entries: 90, Limit: 100}
}

// In a tree with the keys 4, 2 and 6, put in in this order, the anchor leads to a node with the end's key, that one to the end and to a node with the key 4, that one to 2 and to a node with the key 6, and that one to 4 and 6: a walk has four steps to 4 and to 6, and three to 2.
func bent(t *testing.T) *bundle.Store {
	t.Helper()
	return filled(t, largeTree(), 4, 2, 6)
}

// In a tree with the keys 5, 9 and 7 the node with the key 9 leads to a node with the key 7 and to 9, and that one to 5 and 7.
func left(t *testing.T) *bundle.Store {
	t.Helper()
	return filled(t, largeTree(), 5, 9, 7)
}

func TestTheEmptyTree(t *testing.T) { // P11: the anchor's link leads to the end
	s := makeStore(t, largeTree())
	for _, key := range []int{0, 5, api.MaxKey} {
		does(t, s, 0, lookup(key), 5, refused(0))
		does(t, s, 1, remove(key), 8, refused(0))
	}
	does(t, s, 1, scan(span(0, api.MaxKey)), 5, seen(0, nil))
	does(t, s, 1, scan(span(api.MaxKey, api.MaxKey), span(0, 0)), 5, seen(0, nil, nil))
	sweepEnds(t, s, 6)
	shows(t, s, 20, 89, 0)
}

func TestTheOnlyKeyOfATree(t *testing.T) { // P11: the first key in, and out again
	for _, key := range []int{0, 5, api.MaxKey} {
		s := makeStore(t, largeTree())
		does(t, s, 0, insert(key, 50), 12, did(0, 1))
		shows(t, s, 18, 86, 1)
		does(t, s, 1, insert(key, 51), 9, refused(1))
		does(t, s, 1, lookup(key), 6, did(50, 1))
		does(t, s, 1, scan(span(0, api.MaxKey)), 6, seen(1, []api.Pair{{Key: key, Value: 50}}))
		does(t, s, 1, scan(span(key, key)), 6, seen(1, []api.Pair{{Key: key, Value: 50}}))
		does(t, s, 1, remove(key), 15, did(50, 2))
		shows(t, s, 18, 85, 2)
		does(t, s, 1, lookup(key), 5, refused(2))
		does(t, s, 1, scan(span(0, api.MaxKey)), 5, seen(2, nil))
		does(t, s, 1, remove(key), 8, refused(2))
		does(t, s, 1, insert(key, -1), 12, did(0, 3))
		does(t, s, 1, lookup(key), 6, did(-1, 3))
	}
}

func TestUpdatesAtEachPlaceOfATree(t *testing.T) { // P11: below an inner node's key, equal to it, above it
	for _, c := range []struct{ key, walk int }{{0, 3}, {1, 3}, {3, 3}, {5, 4}, {7, 4}, {api.MaxKey, 4}} {
		s := bent(t)
		does(t, s, 1, remove(c.key), 7+c.walk, refused(3))
		does(t, s, 1, lookup(c.key), 4+c.walk, refused(3))
		does(t, s, 1, insert(c.key, 77), 11+c.walk, did(0, 4))
		shows(t, s, 12, 77, 4)
		does(t, s, 1, lookup(c.key), 5+c.walk, did(77, 4))
		does(t, s, 1, insert(c.key, 78), 8+c.walk, refused(4))
		does(t, s, 1, remove(c.key), 14+c.walk, did(77, 5))
		shows(t, s, 12, 76, 5)
		does(t, s, 1, lookup(c.key), 4+c.walk, refused(5))
	}
	for _, c := range []struct{ key, walk, later int }{{2, 3, 3}, {4, 4, 3}, {6, 4, 3}} {
		s := bent(t)
		does(t, s, 1, insert(c.key, 0), 7+c.walk, refused(3))
		does(t, s, 1, lookup(c.key), 4+c.walk, did(10*c.key, 3))
		does(t, s, 1, remove(c.key), 13+c.walk, did(10*c.key, 4))
		shows(t, s, 14, 79, 4)
		does(t, s, 1, remove(c.key), 7+c.later, refused(4)) // an inner node is gone too
	}
}

func TestWhatStaysOfATree(t *testing.T) { // P11: Remove: x's other link leads to a leaf, or to an inner node, on either side
	for _, c := range []struct {
		out   int
		walks [][]int // keys, each with the steps of a walk to it
	}{
		{2, [][]int{{4, 3}, {6, 3}}}, // to the inner node above 4 and 6
		{4, [][]int{{2, 3}, {6, 3}}},
		{6, [][]int{{2, 3}, {4, 3}}},
	} {
		s := bent(t)
		begin(t, s, 0, remove(c.out))
		run(t, s, 0)
		for _, w := range c.walks {
			does(t, s, 0, lookup(w[0]), 4+w[1], did(10*w[0], 4))
		}
		does(t, s, 0, scan(span(0, 99)), 8, seen(4, pairs(c.walks[0][0], c.walks[1][0])))
	}
	s := left(t)
	does(t, s, 0, lookup(5), 8, did(50, 3))
	does(t, s, 0, remove(9), 16, did(90, 4)) // to the inner node above 5 and 7
	does(t, s, 0, lookup(5), 7, did(50, 4))
	does(t, s, 0, lookup(7), 7, did(70, 4))
	does(t, s, 0, lookup(9), 7, refused(4))
	does(t, s, 0, remove(7), 16, did(70, 5))
	does(t, s, 0, lookup(5), 6, did(50, 5))
	does(t, s, 0, remove(5), 15, did(50, 6))
	does(t, s, 0, scan(span(0, api.MaxKey)), 5, seen(6, nil))
}

func TestKeysInAnyOrder(t *testing.T) { // P11: put in and taken out in all orders
	keys := []int{0, 3, 8, api.MaxKey}
	for i := range 24 * 24 {
		in, out := order(keys, i%24), order(keys, i/24)
		s := filled(t, largeTree(), in...)
		for j, key := range out {
			begin(t, s, 1, remove(key))
			run(t, s, 1)
			answers(t, s, 1, did(10*key, 5+j))
			begin(t, s, 1, scan(span(0, api.MaxKey)))
			run(t, s, 1)
			rest := []int{}
			for _, k := range keys {
				for _, later := range out[j+1:] {
					if later == k {
						rest = append(rest, k)
					}
				}
			}
			answers(t, s, 1, seen(5+j, pairs(rest...)))
		}
		sweepEnds(t, s, 6)
		shows(t, s, 20, 89, 8)
	}
}

// order: the four keys in one of their 24 orders.
func order(keys []int, number int) []int {
	left := append([]int{}, keys...)
	var list []int
	for len(left) > 0 {
		i := number % len(left)
		number /= len(left)
		list = append(list, left[i])
		left = append(left[:i], left[i+1:]...)
	}
	return list
}

func TestScanOfATree(t *testing.T) { // P11: a step for each link that may lead to a key from Lo to Hi
	s := bent(t)
	for _, c := range []struct {
		lo, hi, steps int
		want          []api.Pair
	}{
		{0, api.MaxKey, 10, pairs(2, 4, 6)}, {2, 6, 10, pairs(2, 4, 6)}, {3, 6, 10, pairs(4, 6)}, {0, 5, 9, pairs(2, 4)}, {3, 4, 9, pairs(4)}, {3, 5, 9, pairs(4)},
		{4, 6, 9, pairs(4, 6)}, {5, 6, 9, pairs(6)}, {5, 9, 9, pairs(6)}, {4, 4, 8, pairs(4)}, {4, 5, 8, pairs(4)}, {5, 5, 8, nil}, {6, 6, 8, pairs(6)}, {6, 9, 8, pairs(6)},
		{7, 9, 8, nil}, {api.MaxKey, api.MaxKey, 8, nil}, {0, 0, 7, nil}, {0, 3, 7, pairs(2)}, {2, 2, 7, pairs(2)}, {3, 3, 7, nil},
	} {
		does(t, s, 1, scan(span(c.lo, c.hi)), c.steps, seen(3, c.want))
	}
	shows(t, s, 14, 80, 3)
	s = filled(t, largeTree(), api.MaxKey, 0)
	does(t, s, 1, scan(span(0, api.MaxKey)), 8, seen(2, pairs(0, api.MaxKey)))
	does(t, s, 1, scan(span(0, api.MaxKey-1)), 7, seen(2, pairs(0)))
	does(t, s, 1, scan(span(1, api.MaxKey)), 8, seen(2, pairs(api.MaxKey)))
	does(t, s, 1, scan(span(api.MaxKey, api.MaxKey)), 7, seen(2, pairs(api.MaxKey)))
}

func TestScanOfSeveralSpansInATree(t *testing.T) { // P6, P11: the least Lo and the greatest Hi say which links are followed
	s := bent(t)
	does(t, s, 0, scan(span(6, 6), span(2, 2)), 10, seen(3, pairs(6), pairs(2)))
	does(t, s, 0, scan(span(4, 4), span(4, 4), span(5, 5)), 8, seen(3, pairs(4), pairs(4), nil))
	does(t, s, 0, scan(span(0, 1), span(7, 9)), 10, seen(3, nil, nil))
	does(t, s, 0, scan(span(3, 6), span(0, 5), span(0, 99)), 10, seen(3, pairs(4, 6), pairs(2, 4), pairs(2, 4, 6)))
}

// tall: a tree as large as one can be, with the keys from 0 on, put in in rising order: each is a step further down.
func tall(t *testing.T) (*bundle.Store, []int) {
	keys := []int{}
	for i := range api.MaxNodes / 2 {
		keys = append(keys, i)
	}
	c := api.Config{Kind: api.Tree, Threads: 1, Nodes: api.MaxNodes, Entries: api.MaxEntries, Limit: 100}
	return filled(t, c, keys...), keys
}

func TestTheTallestTree(t *testing.T) { // P11, P14
	s, keys := tall(t)
	shows(t, s, 0, 159, 32)
	all := scan(span(0, api.MaxKey))
	does(t, s, 0, all, 68, seen(32, pairs(keys...)))
	does(t, s, 0, lookup(31), 37, did(310, 32))
	does(t, s, 0, lookup(0), 7, did(0, 32))
	does(t, s, 0, insert(32, 0), 41, failed(api.ErrFull))
	sweepEnds(t, s, 4)
	shows(t, s, 0, 191, 32)
	does(t, s, 0, all, 68, seen(32, pairs(keys...)))
	for _, key := range keys[:20] {
		does(t, s, 0, remove(key), 16, did(10*key, 33+key))
	}
	shows(t, s, 0, 171, 52)
	sweepEnds(t, s, 4)
	shows(t, s, 40, 231, 52)
	does(t, s, 0, all, 28, seen(52, pairs(keys[20:]...)))
}

func TestMaxPairsInATree(t *testing.T) { // P6, P9: a pair counts for each span
	s, keys := tall(t)
	all := span(0, api.MaxKey)
	does(t, s, 0, scan(all, all), 68, seen(32, pairs(keys...), pairs(keys...)))
	does(t, s, 0, scan(all, all, span(32, 99)), 68, seen(32, pairs(keys...), pairs(keys...), nil))
	does(t, s, 0, scan(all, all, span(31, 99)), 68, failed(api.ErrLarge))
	does(t, s, 0, scan(span(0, 0), all, all), 68, failed(api.ErrLarge))
	does(t, s, 0, scan(all, span(1, 31), span(5, 5)), 68, seen(32, pairs(keys...), pairs(keys[1:]...), pairs(5)))
}

func TestPoolsRunShortInATree(t *testing.T) { // P11: Insert needs two nodes and three entries, Remove one entry
	s := filled(t, api.Config{Kind: api.Tree, Threads: 1, Nodes: 2, Entries: 4, Limit: 9}, 5)
	does(t, s, 0, remove(5), 11, failed(api.ErrFull))
	does(t, s, 0, insert(6, 60), 10, failed(api.ErrFull))
	does(t, s, 0, insert(5, 51), 9, refused(1)) // refused ahead of any want
	shows(t, s, 0, 0, 1)
	does(t, s, 0, lookup(5), 6, did(50, 1))
	s = filled(t, api.Config{Kind: api.Tree, Threads: 1, Nodes: 2, Entries: 5, Limit: 9}, 5)
	does(t, s, 0, remove(5), 15, did(50, 2)) // it needs no node
	shows(t, s, 0, 0, 2)
	sweepEnds(t, s, 4)
	shows(t, s, 2, 4, 2)
	s = filled(t, api.Config{Kind: api.Tree, Threads: 1, Nodes: 3, Entries: 9, Limit: 9}, 5)
	does(t, s, 0, insert(6, 60), 10, failed(api.ErrFull)) // one node is left
	shows(t, s, 1, 5, 1)
	s = filled(t, api.Config{Kind: api.Tree, Threads: 1, Nodes: 4, Entries: 6, Limit: 9}, 5)
	does(t, s, 0, insert(6, 60), 10, failed(api.ErrFull)) // two entries are left
	shows(t, s, 2, 2, 1)
}

func TestTheClockStopsAtItsLimitInATree(t *testing.T) { // P11: what was taken comes back
	c := largeTree()
	c.Limit = 0
	s := makeStore(t, c)
	does(t, s, 0, insert(5, 50), 10, failed(api.ErrClock))
	shows(t, s, 20, 89, 0)
	does(t, s, 0, lookup(5), 5, refused(0))
	c.Limit = 2
	s = filled(t, c, 5, 9)
	for _, key := range []int{3, 7, 12} {
		begin(t, s, 0, insert(key, 0))
		moves(t, s, 0, 8) // Check
		shows(t, s, 16, 83, 2)
		moves(t, s, 0, 1) // Prepare
		shows(t, s, 14, 80, 2)
		moves(t, s, 0, 1) // Take
		shows(t, s, 16, 83, 2)
		ends(t, s, 0, 2, failed(api.ErrClock))
	}
	for _, key := range []int{5, 9} {
		begin(t, s, 0, remove(key))
		moves(t, s, 0, 10) // Prepare
		shows(t, s, 16, 82, 2)
		moves(t, s, 0, 1) // Take
		shows(t, s, 16, 83, 2)
		ends(t, s, 0, 2, failed(api.ErrClock))
	}
	does(t, s, 1, scan(span(0, 99)), 8, seen(2, pairs(5, 9)))
	does(t, s, 1, insert(5, 0), 10, refused(2))
	c.Nodes = 1
	c.Limit = 0
	s = makeStore(t, c)
	does(t, s, 0, insert(5, 50), 9, failed(api.ErrFull)) // the pools are asked first
}

func TestTheRoomAtEachStepInATree(t *testing.T) { // P11: Prepare alone takes; nothing goes back without a sweep
	s := filled(t, largeTree(), 5)
	begin(t, s, 0, insert(3, 30))
	moves(t, s, 0, 7)
	shows(t, s, 18, 86, 1)
	moves(t, s, 0, 1) // Prepare
	shows(t, s, 16, 83, 1)
	moves(t, s, 0, 1) // Take
	for range 3 {
		shows(t, s, 16, 83, 2)
		moves(t, s, 0, 1)
	}
	ends(t, s, 0, 1, did(0, 2))
	begin(t, s, 0, remove(5))
	moves(t, s, 0, 9)
	shows(t, s, 16, 83, 2)
	moves(t, s, 0, 1) // Prepare
	shows(t, s, 16, 82, 2)
	moves(t, s, 0, 1) // Take
	for range 4 {
		shows(t, s, 16, 82, 3)
		moves(t, s, 0, 1)
	}
	ends(t, s, 0, 1, did(50, 3))
	shows(t, s, 16, 82, 3)
}

func TestCheckFindsTheUpperNodeDead(t *testing.T) { // P11: Check fails at g
	s := left(t)
	begin(t, s, 1, remove(5))
	moves(t, s, 1, 7) // the walk is over: g has the key 9, x the key 7
	does(t, s, 0, remove(9), 16, did(90, 4))
	moves(t, s, 1, 3) // two locks; Check: a new walk
	ends(t, s, 1, 13, did(50, 5))
	does(t, s, 0, scan(span(0, 99)), 6, seen(5, pairs(7)))
}

func TestCheckLooksAtTheUpperNodeOnlyIfItsLockWasWanted(t *testing.T) { // P11
	for _, c := range []struct {
		op   api.Op
		want api.Answer
	}{{insert(6, 60), did(0, 5)}, {insert(5, 51), refused(4)}, {remove(6), refused(4)}} {
		s := left(t)
		begin(t, s, 1, c.op)
		moves(t, s, 1, 7)
		does(t, s, 0, remove(9), 16, did(90, 4)) // g is dead; x stays, and leads to c
		if c.want.Did {
			ends(t, s, 1, 8, c.want)
		} else {
			ends(t, s, 1, 4, c.want)
		}
	}
}

func TestCheckFailsAtTheLowerNode(t *testing.T) { // P11: x is dead, or its link leads elsewhere
	for _, c := range []struct {
		meanwhile api.Op // of thread 0
		op        api.Op
		locks     int
		steps     int // from the new walk on
		want      api.Answer
	}{
		{remove(9), insert(6, 60), 1, 10, did(0, 4)}, {remove(9), insert(5, 51), 1, 6, refused(3)}, {remove(9), remove(6), 1, 6, refused(3)}, {remove(9), remove(5), 2, 12, did(50, 4)},
		{remove(9), remove(9), 2, 6, refused(3)}, {remove(9), insert(9, 91), 1, 10, did(0, 4)}, {remove(9), insert(12, 120), 1, 10, did(0, 4)},
		{insert(7, 70), insert(6, 60), 1, 12, did(0, 4)}, {insert(7, 70), insert(5, 51), 1, 8, refused(3)}, {insert(7, 70), remove(6), 1, 8, refused(3)}, {insert(7, 70), remove(5), 2, 14, did(50, 4)},
		{insert(7, 70), insert(7, 71), 1, 8, refused(3)}, {insert(7, 70), remove(7), 1, 14, did(70, 4)},
	} {
		s := filled(t, largeTree(), 5, 9)
		begin(t, s, 1, c.op)
		moves(t, s, 1, 6) // the walk is over: x leads to 5 and 9
		begin(t, s, 0, c.meanwhile)
		run(t, s, 0)
		moves(t, s, 1, c.locks+1) // Lock; Check: a new walk
		ends(t, s, 1, c.steps, c.want)
	}
}

func TestTheOtherLinkMayTurn(t *testing.T) { // P11: it is the link for the key at which Check looks
	for _, c := range []struct {
		op    api.Op
		steps int
		want  api.Answer
	}{{insert(3, 30), 8, did(0, 4)}, {insert(5, 51), 4, refused(3)}, {remove(5), 10, did(50, 4)}, {remove(4), 4, refused(3)}} {
		s := filled(t, largeTree(), 5, 9)
		begin(t, s, 1, c.op)
		moves(t, s, 1, 6) // x leads to 5 and 9
		does(t, s, 0, insert(12, 120), 14, did(0, 3))
		ends(t, s, 1, c.steps, c.want)
	}
	s := filled(t, largeTree(), 5, 9)
	begin(t, s, 1, remove(5))
	moves(t, s, 1, 6)
	does(t, s, 0, insert(12, 120), 14, did(0, 3))
	ends(t, s, 1, 10, did(50, 4))
	does(t, s, 0, scan(span(0, 99)), 8, seen(4, pairs(9, 12)))
}

// leftLocked: in such a tree thread 0 has both locks of its Remove of 5, those of the nodes with the keys 9 and 7.
func leftLocked(t *testing.T) *bundle.Store {
	t.Helper()
	s := left(t)
	begin(t, s, 0, remove(5))
	moves(t, s, 0, 9)
	return s
}

func TestAnUpdateWaitsForLocksInATree(t *testing.T) { // P11: Lock: x's alone, if nothing is taken out
	for _, c := range []struct {
		op   api.Op
		walk int
	}{{insert(8, 80), 4}, {insert(4, 40), 4}, {insert(7, 0), 4}, {remove(6), 4}, {insert(12, 120), 3}, {remove(12), 3}, {remove(7), 4}} {
		s := leftLocked(t)
		begin(t, s, 1, c.op)
		moves(t, s, 1, 3+c.walk)
		for range 7 {
			waits(t, s, 1)
			moves(t, s, 0, 1)
		}
		moves(t, s, 1, 1) // behind Unlock
		ends(t, s, 0, 1, did(50, 4))
		run(t, s, 1)
	}
}

func TestTheSecondLockIsWaitedForInATree(t *testing.T) { // P11: Lock: g's, then x's
	s := leftLocked(t)
	begin(t, s, 1, remove(9))
	moves(t, s, 1, 7) // the uppermost node's lock, which is g's
	waits(t, s, 1)    // the one with the key 9 is x
	begin(t, s, 2, lookup(9))
	ends(t, s, 2, 7, did(90, 3))
	ends(t, s, 0, 8, did(50, 4))
	moves(t, s, 1, 2) // Lock, Check
	ends(t, s, 1, 7, did(90, 5))
	does(t, s, 2, scan(span(0, 99)), 6, seen(5, pairs(7)))
}

func TestAWaitingThreadKeepsItsLockInATree(t *testing.T) { // P11
	s := filled(t, largeTree(), 5, 9)
	begin(t, s, 0, insert(7, 70))
	moves(t, s, 0, 7) // it has the lock of the node with the key 9
	begin(t, s, 1, remove(5))
	moves(t, s, 1, 7) // it has the uppermost node's
	waits(t, s, 1)
	begin(t, s, 2, remove(9))
	moves(t, s, 2, 6)
	waits(t, s, 2) // for the uppermost node's
	ends(t, s, 0, 7, did(0, 3))
	waits(t, s, 2)
	moves(t, s, 1, 2) // Lock; Check: its link leads to an inner node now
	moves(t, s, 2, 3) // two locks, Check
	moves(t, s, 1, 4) // a walk
	moves(t, s, 2, 1)
	waits(t, s, 1)
	run(t, s, 2)
	answers(t, s, 2, did(90, 4))
	run(t, s, 1)
	answers(t, s, 1, did(50, 5))
	does(t, s, 0, scan(span(0, 99)), 6, seen(5, pairs(7)))
}

func TestLeavesAndUpperNodesAreNotLockedForNothing(t *testing.T) { // P11: others go on at their places meanwhile
	s := leftLocked(t)
	does(t, s, 1, lookup(9), 7, did(90, 3))
	does(t, s, 1, scan(span(0, 99)), 10, seen(3, pairs(5, 7, 9)))
	s = filled(t, largeTree(), 4, 2, 6)
	begin(t, s, 0, insert(5, 50))
	moves(t, s, 0, 8) // it has the lock of the node with the key 6
	does(t, s, 1, insert(3, 30), 14, did(0, 4))
	does(t, s, 1, remove(2), 17, did(20, 5))
	ends(t, s, 0, 7, did(0, 6))
	does(t, s, 1, scan(span(0, 99)), 12, seen(6, []api.Pair{{Key: 3, Value: 30}, {Key: 4, Value: 40}, {Key: 5, Value: 50}, {Key: 6, Value: 60}}))
}
