package bundle_test

import (
	"testing"

	"bundle/api"
	"bundle/bundle"
)

func TestReadsOfAnEmptyStore(t *testing.T) { // P6, P9
	s := makeStore(t, small())
	for _, key := range []int{0, 5, api.MaxKey} {
		does(t, s, 0, lookup(key), 5, refused(0))
	}
	does(t, s, 1, scan(span(0, api.MaxKey)), 5, seen(0, nil))
	does(t, s, 1, scan(span(api.MaxKey, api.MaxKey), span(0, 0)), 5, seen(0, nil, nil))
	shows(t, s, 4, 8, 0)
}

func TestLookupAtEachPlace(t *testing.T) { // P6, P9: a walk has a step for each key below, and one more
	keys := []int{0, 4, 8, api.MaxKey}
	s := filled(t, large(), keys...)
	for i, key := range keys {
		does(t, s, 1, lookup(key), 5+i, did(10*key, 4))
	}
	does(t, s, 1, lookup(1), 6, refused(4))
	does(t, s, 1, lookup(7), 7, refused(4))
	does(t, s, 1, lookup(api.MaxKey-1), 8, refused(4))
	shows(t, s, 5, 31, 4)
	s = filled(t, large(), 2)
	does(t, s, 0, lookup(1), 5, refused(1))
	does(t, s, 0, lookup(api.MaxKey), 6, refused(1))
}

func TestValuesOfAllKinds(t *testing.T) { // P6
	for _, value := range []int{lowest, -1, 0, 1, highest} {
		s := makeStore(t, small())
		does(t, s, 0, insert(0, value), 12, did(0, 1))
		does(t, s, 0, lookup(0), 5, did(value, 1))
		does(t, s, 0, scan(span(0, 0)), 6, seen(1, []api.Pair{{Key: 0, Value: value}}))
	}
}

func TestScanOfOneSpan(t *testing.T) { // P6, P9: a walk has a step for each key up to Hi, and one more
	s := filled(t, large(), 3, 5, 7)
	for _, c := range []struct {
		lo, hi, steps int
		want          []api.Pair
	}{
		{0, api.MaxKey, 8, pairs(3, 5, 7)}, {0, 7, 8, pairs(3, 5, 7)}, {3, 7, 8, pairs(3, 5, 7)}, {4, 7, 8, pairs(5, 7)}, {7, 7, 8, pairs(7)},
		{3, 6, 7, pairs(3, 5)}, {4, 6, 7, pairs(5)}, {5, 5, 7, pairs(5)}, {6, 6, 7, nil}, {3, 3, 6, pairs(3)}, {3, 4, 6, pairs(3)}, {4, 4, 6, nil},
		{0, 2, 5, nil}, {0, 0, 5, nil}, {8, 8, 8, nil}, {8, api.MaxKey, 8, nil}, {api.MaxKey, api.MaxKey, 8, nil},
	} {
		does(t, s, 1, scan(span(c.lo, c.hi)), c.steps, seen(3, c.want))
	}
	shows(t, s, 6, 33, 3)
	s = filled(t, large(), 0, api.MaxKey)
	does(t, s, 1, scan(span(0, api.MaxKey)), 7, seen(2, pairs(0, api.MaxKey)))
	does(t, s, 1, scan(span(api.MaxKey, api.MaxKey)), 7, seen(2, pairs(api.MaxKey)))
	does(t, s, 1, scan(span(0, api.MaxKey-1)), 6, seen(2, pairs(0)))
}

func TestScanOfSeveralSpans(t *testing.T) { // P6, P9: in any order, overlapping, the same, apart
	s := filled(t, large(), 3, 5, 7, 9)
	for _, c := range []struct {
		spans []api.Span
		steps int
		want  [][]api.Pair
	}{
		{[]api.Span{span(0, 6), span(5, 9)}, 9, [][]api.Pair{pairs(3, 5), pairs(5, 7, 9)}},
		{[]api.Span{span(9, 9), span(3, 3)}, 9, [][]api.Pair{pairs(9), pairs(3)}},
		{[]api.Span{span(5, 5), span(5, 5), span(5, 5)}, 7, [][]api.Pair{pairs(5), pairs(5), pairs(5)}},
		{[]api.Span{span(4, 8), span(0, 99), span(6, 6)}, 9, [][]api.Pair{pairs(5, 7), pairs(3, 5, 7, 9), nil}},
		{[]api.Span{span(8, 8), span(0, 2)}, 8, [][]api.Pair{nil, nil}},
		{[]api.Span{span(0, 1), span(6, 7)}, 8, [][]api.Pair{nil, pairs(7)}},
	} {
		does(t, s, 1, scan(c.spans...), c.steps, seen(4, c.want...))
	}
}

func TestScanOfMaxSpans(t *testing.T) { // P4, P9
	keys := []int{}
	spans := []api.Span{}
	want := [][]api.Pair{}
	for i := range api.MaxSpans {
		keys = append(keys, 2*i)
		spans = append([]api.Span{span(2*i, 2*i+1)}, spans...)
		want = append([][]api.Pair{pairs(2 * i)}, want...)
	}
	c := api.Config{Kind: api.List, Threads: 1, Nodes: 20, Entries: 90, Limit: 100}
	s := filled(t, c, keys...)
	does(t, s, 0, scan(spans...), 5+api.MaxSpans, seen(api.MaxSpans, want...))
	if e := s.Begin(0, scan(append(spans, span(0, 0))...)); e != api.ErrSpan {
		t.Errorf("one span more: %d, want ErrSpan", e)
	}
	answers(t, s, 0, seen(api.MaxSpans, want...))
}

// full: a store with the keys from 0 to MaxNodes-1.
func full(t *testing.T) (*bundle.Store, []int) {
	keys := []int{}
	for i := range api.MaxNodes {
		keys = append(keys, i)
	}
	c := api.Config{Kind: api.List, Threads: 1, Nodes: api.MaxNodes, Entries: api.MaxEntries, Limit: 100}
	return filled(t, c, keys...), keys
}

func TestMaxPairs(t *testing.T) { // P6, P9: just MaxPairs pairs, and one more
	s, keys := full(t)
	does(t, s, 0, scan(span(0, api.MaxKey)), 69, seen(64, pairs(keys...)))
	does(t, s, 0, scan(span(0, 63), span(64, 99)), 69, seen(64, pairs(keys...), nil))
	does(t, s, 0, scan(span(0, 63), span(0, 0)), 69, failed(api.ErrLarge))
	does(t, s, 0, scan(span(63, 63), span(0, 63)), 69, failed(api.ErrLarge))
	does(t, s, 0, scan(span(0, 31), span(32, 63)), 69, seen(64, pairs(keys[:32]...), pairs(keys[32:]...)))
	does(t, s, 0, scan(span(0, 32), span(32, 63)), 69, failed(api.ErrLarge))
	does(t, s, 0, scan(span(5, 36), span(5, 36)), 42, seen(64, pairs(keys[5:37]...), pairs(keys[5:37]...)))
	does(t, s, 0, scan(span(5, 36), span(5, 37)), 43, failed(api.ErrLarge))
	spans := make([]api.Span, api.MaxSpans)
	want := make([][]api.Pair, api.MaxSpans)
	for i := range spans {
		spans[i] = span(i, i+3)
		want[i] = pairs(keys[i : i+4]...)
	}
	does(t, s, 0, scan(spans...), 24, seen(64, want...))
	spans[7].Hi++
	does(t, s, 0, scan(spans...), 24, failed(api.ErrLarge))
	for i := range spans {
		spans[i] = span(0, api.MaxKey)
	}
	does(t, s, 0, scan(spans...), 69, failed(api.ErrLarge))
	shows(t, s, 0, 127, 64)
	does(t, s, 0, lookup(63), 68, did(630, 64)) // behind an error all goes on
}

func TestAReadSeesTheStoreAtItsTime(t *testing.T) { // P9: Read alone decides
	all := scan(span(0, api.MaxKey))
	s := filled(t, large(), 5, 9)
	begin(t, s, 1, all)
	moves(t, s, 1, 1)
	begin(t, s, 2, lookup(5))
	moves(t, s, 2, 1)
	does(t, s, 0, insert(7, 70), 13, did(0, 3))
	moves(t, s, 1, 1) // its time is 3
	does(t, s, 0, remove(5), 14, did(50, 4))
	moves(t, s, 2, 2) // its time is 4
	moves(t, s, 1, 1)
	does(t, s, 0, insert(5, 55), 12, did(0, 5))
	does(t, s, 0, remove(9), 16, did(90, 6))
	ends(t, s, 1, 5, seen(3, pairs(5, 7, 9)))
	ends(t, s, 2, 2, refused(4))
	does(t, s, 1, all, 7, seen(6, []api.Pair{{Key: 5, Value: 55}, {Key: 7, Value: 70}}))
	does(t, s, 2, lookup(5), 5, did(55, 6))
}

func TestAReadStandsAtADeadNode(t *testing.T) { // P9: what was taken out meanwhile still leads on
	s := filled(t, large(), 5, 7, 9)
	begin(t, s, 1, scan(span(0, 99)))
	moves(t, s, 1, 4) // it stands at 5
	begin(t, s, 2, lookup(9))
	moves(t, s, 2, 5) // it stands at 7
	does(t, s, 0, remove(5), 14, did(50, 4))
	does(t, s, 0, remove(7), 14, did(70, 5))
	does(t, s, 0, insert(6, 60), 12, did(0, 6))
	does(t, s, 0, insert(8, 80), 13, did(0, 7))
	ends(t, s, 1, 4, seen(3, pairs(5, 7, 9)))
	ends(t, s, 2, 2, did(90, 3))
}

func TestAReadWaitsOnlyWhereAnEntryIsPending(t *testing.T) { // P9
	s := filled(t, large(), 3, 5)
	begin(t, s, 0, remove(5))
	moves(t, s, 0, 9) // Prepare: 3's link has a pending entry
	does(t, s, 1, lookup(3), 5, did(30, 2))
	does(t, s, 1, lookup(1), 5, refused(2))
	does(t, s, 1, scan(span(0, 2)), 5, seen(2, nil))
	begin(t, s, 1, scan(span(0, 3)))
	moves(t, s, 1, 4)
	waits(t, s, 1) // Hi is 3, but only the next node tells that the walk is over
	begin(t, s, 2, lookup(4))
	moves(t, s, 2, 4)
	waits(t, s, 2)
	for range 3 { // Take, Kill, Link
		moves(t, s, 0, 1)
		waits(t, s, 1)
		waits(t, s, 2)
	}
	moves(t, s, 0, 1) // Stamp
	ends(t, s, 1, 2, seen(2, pairs(3)))
	ends(t, s, 2, 2, refused(2))
	ends(t, s, 0, 2, did(50, 3))
}

func TestAReadSeesWhatWasTakenAheadOfItsTime(t *testing.T) { // P9: Take is what counts, not Link or Stamp
	s := filled(t, large(), 5)
	begin(t, s, 0, remove(5))
	moves(t, s, 0, 9) // Take
	begin(t, s, 1, lookup(5))
	moves(t, s, 1, 3)
	waits(t, s, 1)
	moves(t, s, 0, 3) // Kill, Link, Stamp
	ends(t, s, 1, 2, refused(2))
	begin(t, s, 2, scan(span(5, 5)))
	ends(t, s, 2, 5, seen(2, nil))
	ends(t, s, 0, 2, did(50, 2))
}

func TestAReadTakesNoLock(t *testing.T) { // P9
	s := filled(t, large(), 5)
	begin(t, s, 1, insert(3, 30))
	moves(t, s, 1, 5) // it has the anchor's lock
	begin(t, s, 0, scan(span(0, 9)))
	moves(t, s, 0, 5) // the walk is over
	ends(t, s, 1, 7, did(0, 2))
	does(t, s, 1, remove(5), 15, did(50, 3))
	ends(t, s, 0, 1, seen(1, pairs(5)))
}

func TestAReadGoesOnBehindErrClock(t *testing.T) { // P8, P9: no pending entry stays
	c := large()
	c.Limit = 1
	s := filled(t, c, 5)
	for _, op := range []api.Op{insert(3, 30), remove(5)} {
		begin(t, s, 0, op)
		count := 7
		if op.Kind == api.Remove {
			count = 8
		}
		moves(t, s, 0, count) // Prepare
		begin(t, s, 1, scan(span(0, 9)))
		moves(t, s, 1, 3)
		waits(t, s, 1)
		moves(t, s, 0, 1) // Take
		ends(t, s, 1, 3, seen(1, pairs(5)))
		ends(t, s, 0, 2, failed(api.ErrClock))
	}
}

func TestReadsNeedNoRoom(t *testing.T) { // P9: spent pools and a spent clock are nothing to a read
	s := filled(t, api.Config{Kind: api.List, Threads: 1, Nodes: 1, Entries: 3, Limit: 1}, 5)
	shows(t, s, 0, 0, 1)
	does(t, s, 0, lookup(5), 5, did(50, 1))
	does(t, s, 0, scan(span(0, 9)), 6, seen(1, pairs(5)))
	s = makeStore(t, api.Config{Kind: api.List, Threads: 1, Nodes: 0, Entries: 1, Limit: 0})
	does(t, s, 0, scan(span(0, 9)), 5, seen(0, nil))
}

func TestAnswersOfReadsStay(t *testing.T) { // P6: while another operation is under way, and what it does
	s := filled(t, large(), 3, 5)
	want := seen(2, pairs(3, 5), pairs(5))
	does(t, s, 1, scan(span(0, 9), span(5, 9)), 7, want)
	begin(t, s, 1, lookup(5))
	does(t, s, 0, remove(5), 15, did(50, 3))
	for range 5 {
		answers(t, s, 1, want)
		moves(t, s, 1, 1)
	}
	answers(t, s, 1, want)
	ends(t, s, 1, 1, refused(3)) // its Spans are nil again
	does(t, s, 2, scan(span(0, 9)), 6, seen(3, pairs(3)))
	answers(t, s, 1, refused(3))
	does(t, s, 2, insert(4, 40), 13, did(0, 4))
}
