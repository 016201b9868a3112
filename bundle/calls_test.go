package bundle_test

import (
	"reflect"
	"testing"

	"bundle/api"
	"bundle/bundle"
)

func TestNewKeepsTheBounds(t *testing.T) { // P3, P7
	good := []int{api.List, 2, 4, 9, 100}
	for _, c := range []struct {
		field int
		in    []int
		out   []int
	}{
		{0, []int{api.List, api.Tree}, []int{-1, 2, lowest, highest}},
		{1, []int{1, 2, api.MaxThreads}, []int{0, -1, api.MaxThreads + 1, lowest, highest}},
		{2, []int{0, 1, api.MaxNodes}, []int{-1, api.MaxNodes + 1, lowest, highest}},
		{3, []int{1, 2, api.MaxEntries}, []int{0, -1, api.MaxEntries + 1, lowest, highest}},
		{4, []int{0, 1, api.MaxLimit}, []int{-1, api.MaxLimit + 1, lowest, highest}},
	} {
		for _, n := range c.in {
			numbers := append([]int{}, good...)
			numbers[c.field] = n
			s := makeStore(t, config(numbers))
			shows(t, s, numbers[2], numbers[3]-1, 0)
		}
		for _, n := range c.out {
			numbers := append([]int{}, good...)
			numbers[c.field] = n
			if s, e := bundle.New(config(numbers)); s != nil || e != api.ErrConfig {
				t.Errorf("New(%v) = %v, %d, want ErrConfig", numbers, s, e)
			}
		}
	}
}

func config(n []int) api.Config {
	return api.Config{Kind: n[0], Threads: n[1], Nodes: n[2], Entries: n[3], Limit: n[4]}
}

func TestNewMakesAllThreads(t *testing.T) { // P3
	for threads := 1; threads <= api.MaxThreads; threads++ {
		c := small()
		c.Threads = threads
		s := makeStore(t, c)
		for i := range threads {
			if _, e := s.Step(i); e != api.ErrIdle {
				t.Errorf("of %d threads number %d: %d, want ErrIdle", threads, i, e)
			}
			if _, e := s.Answer(i); e != api.ErrIdle {
				t.Errorf("of %d threads number %d: %d, want ErrIdle", threads, i, e)
			}
			begin(t, s, i, insert(i, i))
		}
		if e := s.Begin(threads, insert(0, 0)); e != api.ErrThread {
			t.Errorf("of %d threads number %d: %d, want ErrThread", threads, threads, e)
		}
	}
}

func TestBeginTakesGoodOperations(t *testing.T) { // P4
	full := make([]api.Span, api.MaxSpans)
	for _, kind := range []int{api.List, api.Tree} {
		for _, op := range []api.Op{
			insert(0, lowest), insert(api.MaxKey, highest), remove(0), remove(api.MaxKey), lookup(0), lookup(api.MaxKey),
			{Kind: api.Insert, Spans: make([]api.Span, 99)}, {Kind: api.Remove, Value: lowest, Spans: []api.Span{{Lo: 2, Hi: 1}}}, {Kind: api.Lookup, Spans: []api.Span{}},
			scan(api.Span{}), scan(api.Span{Lo: 0, Hi: api.MaxKey}), scan(api.Span{Lo: api.MaxKey, Hi: api.MaxKey}), scan(full...),
			{Kind: api.Scan, Key: -1, Value: 5, Spans: full}, {Kind: api.Scan, Key: highest, Spans: full},
		} {
			c := small()
			c.Kind = kind
			s := makeStore(t, c)
			begin(t, s, 1, op)
			if e := s.Begin(1, op); e != api.ErrBusy {
				t.Errorf("a second Begin(%+v) = %d, want ErrBusy", op, e)
			}
			if _, e := s.Answer(1); e != api.ErrIdle {
				t.Errorf("Answer while the first operation is under way: %d, want ErrIdle", e)
			}
			shows(t, s, 4, 8, 0)
		}
	}
}

func TestBeginRefusesBadOperations(t *testing.T) { // P4
	spans := func(s ...api.Span) []api.Span { return s }
	for _, c := range []struct {
		op   api.Op
		want api.Errno
	}{
		{api.Op{}, api.ErrOp}, {api.Op{Kind: 5}, api.ErrOp}, {api.Op{Kind: -1}, api.ErrOp}, {api.Op{Kind: lowest}, api.ErrOp}, {api.Op{Kind: highest}, api.ErrOp},
		{api.Op{Kind: 5, Spans: spans(api.Span{Lo: 2, Hi: 1})}, api.ErrOp},
		{insert(-1, 0), api.ErrOp}, {insert(api.MaxKey+1, 0), api.ErrOp}, {insert(lowest, 0), api.ErrOp}, {insert(highest, 0), api.ErrOp},
		{remove(-1), api.ErrOp}, {remove(api.MaxKey + 1), api.ErrOp}, {lookup(-1), api.ErrOp}, {lookup(api.MaxKey + 1), api.ErrOp},
		{api.Op{Kind: api.Scan}, api.ErrSpan}, {api.Op{Kind: api.Scan, Spans: spans()}, api.ErrSpan}, {api.Op{Kind: api.Scan, Spans: make([]api.Span, api.MaxSpans+1)}, api.ErrSpan},
		{api.Op{Kind: api.Scan, Key: -1}, api.ErrSpan},
		{scan(api.Span{Lo: 2, Hi: 1}), api.ErrSpan}, {scan(api.Span{}, api.Span{Lo: 2, Hi: 1}), api.ErrSpan}, {scan(api.Span{Lo: 2, Hi: 1}, api.Span{}), api.ErrSpan},
		{scan(api.Span{Lo: -1, Hi: 1}), api.ErrSpan}, {scan(api.Span{Lo: -2, Hi: -1}), api.ErrSpan}, {scan(api.Span{Lo: 0, Hi: api.MaxKey + 1}), api.ErrSpan},
		{scan(api.Span{Lo: api.MaxKey + 1, Hi: api.MaxKey + 1}), api.ErrSpan}, {scan(api.Span{Lo: lowest, Hi: highest}), api.ErrSpan},
	} {
		for _, kind := range kinds {
			config := small()
			config.Kind = kind
			s := makeStore(t, config)
			if e := s.Begin(0, c.op); e != c.want {
				t.Errorf("Begin(%+v) = %d, want %d", c.op, e, c.want)
			}
			if _, e := s.Step(0); e != api.ErrIdle {
				t.Errorf("Begin(%+v) was refused, and yet the thread is busy", c.op)
			}
		}
	}
}

func TestTheFirstNamedErrorIsTheAnswer(t *testing.T) { // P1, P4
	s := makeStore(t, small())
	for _, thread := range []int{-1, 2, lowest, highest} {
		if e := s.Begin(thread, api.Op{Kind: 9, Key: -1}); e != api.ErrThread {
			t.Errorf("Begin(%d) = %d, want ErrThread", thread, e)
		}
	}
	begin(t, s, 0, insert(5, 50))
	for _, op := range []api.Op{{Kind: 9}, insert(-1, 0), {Kind: api.Scan}, insert(6, 60)} {
		if e := s.Begin(0, op); e != api.ErrBusy {
			t.Errorf("Begin(%+v) of a busy thread = %d, want ErrBusy", op, e)
		}
	}
	ends(t, s, 0, 12, did(0, 1)) // the operation under way was left as it was
	does(t, s, 0, remove(5), 14, did(50, 2))
}

func TestErrorsComeWithZeroResults(t *testing.T) { // P1, P5, P6
	for _, kind := range kinds {
		config := small()
		config.Kind = kind
		s := makeStore(t, config)
		does(t, s, 0, insert(5, 50), 12, did(0, 1))
		for _, c := range []struct {
			thread int
			want   api.Errno
		}{{-1, api.ErrThread}, {2, api.ErrThread}, {lowest, api.ErrThread}, {highest, api.ErrThread}, {1, api.ErrIdle}} {
			if how, e := s.Step(c.thread); how != 0 || e != c.want {
				t.Errorf("Step(%d) = %d, %d, want 0, %d", c.thread, how, e, c.want)
			}
			if a, e := s.Answer(c.thread); !sameAnswer(a, api.Answer{}) || e != c.want {
				t.Errorf("Answer(%d) = %+v, %d, want nothing, %d", c.thread, a, e, c.want)
			}
		}
		if how, e := s.Step(0); how != 0 || e != api.ErrIdle {
			t.Errorf("Step behind the end = %d, %d, want 0, ErrIdle", how, e)
		}
		answers(t, s, 0, did(0, 1))
		shows(t, s, 3-kind, 6-kind, 1)
	}
}

func TestTheLastAnswerStays(t *testing.T) { // P6
	s := makeStore(t, small())
	does(t, s, 0, insert(5, 50), 12, did(0, 1))
	begin(t, s, 0, remove(5))
	for range 13 {
		answers(t, s, 0, did(0, 1))
		step(t, s, 0, api.Moved)
	}
	answers(t, s, 0, did(0, 1))
	ends(t, s, 0, 1, did(50, 2))
	does(t, s, 1, remove(5), 8, refused(2))
	answers(t, s, 0, did(50, 2))
}

func TestAnswersAreTheCallersOwn(t *testing.T) { // P2
	s := makeStore(t, small())
	does(t, s, 0, insert(5, 50), 12, did(0, 1))
	a, _ := s.Answer(0)
	a.Did, a.Value, a.Stamp, a.Spans = false, 7, 7, [][]api.Pair{{{Key: 1}}}
	answers(t, s, 0, did(0, 1))
}

// spoil: all that can be reached from the lists, their spare room too, becomes something else.
func spoil(lists [][]api.Pair, mark int) {
	lists = lists[:cap(lists)]
	for i := range lists {
		list := lists[i][:cap(lists[i])]
		for j := range list {
			list[j] = api.Pair{Key: mark, Value: i}
		}
	}
}

func TestListsOfAnAnswerAreFresh(t *testing.T) { // P2
	s := filled(t, large(), 3, 5, 7)
	want := seen(3, pairs(3, 5, 7), pairs(5, 7), nil, pairs(3, 5, 7))
	does(t, s, 0, scan(span(0, 9), span(5, 9), span(8, 9), span(0, 9)), 8, want)
	a, _ := s.Answer(0)
	b, _ := s.Answer(0)
	spoil(a.Spans, -1)
	if !sameAnswer(b, want) {
		t.Errorf("two answers share room: %+v", b)
	}
	answers(t, s, 0, want)
	spoil(b.Spans, -2)
	for i, list := range a.Spans {
		for _, pair := range list {
			if pair != (api.Pair{Key: -1, Value: i}) {
				t.Errorf("two lists share room: %+v", a.Spans)
			}
		}
	}
	for i := range a.Spans {
		a.Spans[i] = nil
	}
	_ = append(b.Spans[:0], nil, nil, nil, nil, nil)
	answers(t, s, 0, want)
}

func TestListsOfOneAnswerShareNoRoom(t *testing.T) { // P2
	s, _ := full(t)
	begin(t, s, 0, scan(span(0, 6), span(7, 20), span(3, 3), span(2, 4), span(60, 63), span(50, 50), span(0, 2)))
	run(t, s, 0)
	before, _ := s.Answer(0)
	for i := range before.Spans {
		a, _ := s.Answer(0)
		list := a.Spans[i][:cap(a.Spans[i])]
		for j := range list {
			list[j] = api.Pair{Key: -1, Value: -1}
		}
		a.Spans[i] = before.Spans[i]
		if !sameAnswer(a, before) {
			t.Errorf("list %d shares room with another: %+v", i, a)
		}
	}
}

func TestAnswersOfThreadsShareNoRoom(t *testing.T) { // P2
	s := filled(t, large(), 3, 5)
	want := seen(2, pairs(3, 5))
	does(t, s, 0, scan(span(0, 9)), 7, want)
	does(t, s, 1, scan(span(0, 9)), 7, want)
	a, _ := s.Answer(0)
	spoil(a.Spans, -1)
	answers(t, s, 1, want)
	does(t, s, 0, scan(span(0, 9)), 7, want)
}

func TestSpansMayChangeWhileAScanIsUnderWay(t *testing.T) { // P2
	for _, c := range []api.Config{large(), largeTree()} {
		steps := 8 + 2*c.Kind
		for when := range steps {
			s := filled(t, c, 3, 5, 7)
			room := []api.Span{span(9, 9), span(0, 4), span(5, 9), span(9, 9)}
			begin(t, s, 1, scan(room[1:3]...))
			moves(t, s, 1, when)
			for i := range room {
				room[i] = span(8, -8)
			}
			ends(t, s, 1, steps-when, seen(3, pairs(3), pairs(5, 7)))
			for i := range room {
				if room[i] != span(8, -8) {
					t.Errorf("the spans were written into: %v", room)
				}
			}
		}
	}
}

func TestListsHandedInAreNotWrittenInto(t *testing.T) { // P2
	room := make([]api.Span, 12)
	for i := range room {
		room[i] = api.Span{Lo: i, Hi: 2 * i}
	}
	before := append([]api.Span{}, room...)
	for i := range 8 {
		kind := pick(i, api.Insert, api.Remove, api.Lookup, api.Scan)
		config := large()
		if i >= 4 {
			config = largeTree()
		}
		s := filled(t, config, 2, 5, 9)
		begin(t, s, 0, api.Op{Kind: kind, Key: 3, Spans: room[2:5]})
		for range 20 {
			s.Step(0)
			s.Answer(0)
			s.Sweep()
		}
		if !reflect.DeepEqual(room, before) {
			t.Fatalf("an operation of kind %d has written into its spans: %v", kind, room)
		}
	}
}

func TestStoresKnowNothingOfOneAnother(t *testing.T) { // P2
	a := makeStore(t, small())
	b := makeStore(t, small())
	begin(t, b, 0, insert(5, 51))
	moves(t, b, 0, 5) // it has the lock of b's anchor
	does(t, a, 0, insert(5, 50), 12, did(0, 1))
	does(t, a, 1, insert(6, 60), 13, did(0, 2))
	shows(t, b, 4, 8, 0)
	if _, e := b.Answer(0); e != api.ErrIdle {
		t.Errorf("an answer of another store: %d", e)
	}
	ends(t, b, 0, 7, did(0, 1))
	does(t, b, 0, remove(5), 14, did(51, 2))
	does(t, a, 0, remove(5), 14, did(50, 3))
	does(t, a, 0, scan(span(0, 9)), 6, seen(3, pairs(6)))
	does(t, b, 1, scan(span(0, 9)), 5, seen(2, nil))
	answers(t, a, 0, seen(3, pairs(6)))
}

func TestNoCallPanicsAtOddNumbers(t *testing.T) { // P1
	odd := []int{lowest, lowest + 1, -2, -1, 0, 1, 2, 3, 4, 5, 7, 8, 9, 63, 64, 65, 255, 256, 257, 1 << 40, 1<<40 + 1, highest - 1, highest}
	for i, n := range odd {
		for j, m := range odd {
			bundle.New(api.Config{Kind: pick(i, 0, 1, n), Threads: m, Nodes: n, Entries: m, Limit: n})
			s := makeStore(t, api.Config{Kind: pick(i+j, 0, 1), Threads: 3, Nodes: pick(i, 0, 1, 2), Entries: pick(j, 1, 2, 3), Limit: pick(i+j, 0, 1, 2)})
			s.Begin(n, api.Op{Kind: m, Key: n, Spans: []api.Span{{Lo: m, Hi: n}}})
			s.Begin(1, api.Op{Kind: n, Key: m, Spans: []api.Span{{Lo: n, Hi: m}}})
			s.Begin(2, insert(3, n))
			s.Begin(0, scan(span(pick(j, 0, 1, 3), pick(i, 3, 4, api.MaxKey)), span(0, 3)))
			for _, thread := range []int{n, m, 0, 1, 2} {
				for range 20 {
					s.Step(thread)
					s.Answer(thread)
					s.Sweep()
				}
			}
			s.Clock()
			s.Room()
		}
	}
}
