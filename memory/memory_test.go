package memory

import (
	"testing"

	"bundle/api"
)

func room(t *testing.T, m *Memory, nodes, entries int) {
	t.Helper()
	if n, e := m.Room(); n != nodes || e != entries {
		t.Fatalf("Room = %d, %d, want %d, %d", n, e, nodes, entries)
	}
}

// remembers: the link of the node has just these entries: node and stamp by turns, -1 for a pending one.
func remembers(t *testing.T, m *Memory, number int, want ...int) {
	t.Helper()
	count := 0
	for _, e := range m.entries {
		if !e.used || e.from != number {
			continue
		}
		count++
		stamp := e.stamp
		if e.pending {
			stamp = -1
		}
		found := false
		for i := 0; i+1 < len(want); i += 2 {
			found = found || want[i] == e.to && want[i+1] == stamp
		}
		if !found {
			t.Fatalf("the link of %d remembers %+v, want %v", number, e, want)
		}
	}
	if 2*count != len(want) {
		t.Fatalf("the link of %d has %d entries, want %v", number, count, want)
	}
}

func TestNew(t *testing.T) { // P3
	m := New(4, 9)
	room(t, m, 4, 8)
	remembers(t, m, Anchor, End, 0)
	remembers(t, m, End)
	if m.Node(Anchor).Next != End || m.Node(End).Key != api.MaxKey+1 {
		t.Errorf("the anchor is %+v, the end %+v", m.Node(Anchor), m.Node(End))
	}
}

func TestMakeAndFree(t *testing.T) { // P7, P8: Prepare, Take
	m := New(2, 6)
	a := m.Make(5, 50, End)
	m.Pend(Anchor, a)
	room(t, m, 1, 3)
	if n := m.Node(a); n.Key != 5 || n.Value != 50 || n.Next != End || n.Dead || n.Retired {
		t.Errorf("the new node is %+v", n)
	}
	remembers(t, m, a, End, -1)
	remembers(t, m, Anchor, End, 0, a, -1)
	m.Stamp(a, 1)
	remembers(t, m, a, End, 1)
	remembers(t, m, Anchor, End, 0, a, -1)
	if m.Node(Anchor).Next != End {
		t.Errorf("the anchor leads to %d ahead of Lead", m.Node(Anchor).Next)
	}
	m.Lead(Anchor)
	m.Stamp(Anchor, 1)
	remembers(t, m, Anchor, End, 0, a, 1)
	if m.Node(Anchor).Next != a {
		t.Errorf("the anchor leads to %d behind Lead", m.Node(Anchor).Next)
	}
	b := m.Make(7, 70, End)
	m.Pend(a, b)
	room(t, m, 0, 1)
	m.Unpend(a)
	m.Free(b)
	room(t, m, 1, 3)
	remembers(t, m, a, End, 1)
	remembers(t, m, b)
	m.Free(a)
	room(t, m, 2, 4)
	remembers(t, m, Anchor, End, 0, a, 1)
}

func TestANodeUsedAgainKnowsNothing(t *testing.T) { // P8
	m := New(1, 6)
	a := m.Make(5, 50, End)
	m.Lock(a, 3)
	m.Kill(a)
	m.Retire(a, 9)
	if n := m.Node(a); !n.Dead || !n.Retired || n.RetiredAt != 9 {
		t.Errorf("killed and retired: %+v", n)
	}
	m.Free(a)
	b := m.Make(6, 60, End)
	if n := m.Node(b); a != b || n.Key != 6 || n.Value != 60 || n.Dead || n.Retired || n.RetiredAt != 0 || !m.Lock(b, 4) {
		t.Errorf("used again: %+v", n)
	}
}

func TestLinksRemember(t *testing.T) { // Words: to which node a link led at a time
	m := New(4, 20)
	a := m.Make(5, 50, End)
	m.Stamp(a, 3)
	b := m.Make(6, 60, End)
	m.Stamp(b, 8)
	turn(m, Anchor, a, 3)
	turn(m, a, b, 8)
	turn(m, Anchor, b, 9)
	turn(m, Anchor, End, 1<<40)
	for _, c := range []struct{ from, time, to int }{
		{Anchor, 0, End}, {Anchor, 1, End}, {Anchor, 2, End}, {Anchor, 3, a}, {Anchor, 4, a}, {Anchor, 8, a}, {Anchor, 9, b}, {Anchor, 10, b},
		{Anchor, 1<<40 - 1, b}, {Anchor, 1 << 40, End}, {a, 3, End}, {a, 7, End}, {a, 8, b}, {a, 9, b}, {b, 8, End}, {b, 99, End},
	} {
		if to := m.LedTo(c.from, c.time); to != c.to {
			t.Errorf("at the time %d the link of %d led to %d, want %d", c.time, c.from, to, c.to)
		}
	}
}

// turn: the node's link leads to another node, with a stamp.
func turn(m *Memory, number, to, stamp int) {
	m.Pend(number, to)
	m.Lead(number)
	m.Stamp(number, stamp)
}

func TestTheOrderOfEntriesIsNothing(t *testing.T) { // Words: the stamps alone count
	m := New(3, 20)
	a := m.Make(5, 50, End)
	turn(m, Anchor, a, 7)
	turn(m, Anchor, End, 5)
	turn(m, Anchor, a, 2)
	for time, want := range []int{End, End, a, a, a, End, End, a, a} {
		if to := m.LedTo(Anchor, time); to != want {
			t.Errorf("at the time %d the link led to %d, want %d", time, to, want)
		}
	}
}

func TestAPendingEntryTellsOfNoTime(t *testing.T) { // Words, P9
	m := New(2, 9)
	if m.HasPending(Anchor) || m.HasPending(End) {
		t.Error("a pending entry at first")
	}
	a := m.Make(5, 50, End)
	m.Pend(Anchor, a)
	m.Lead(Anchor)
	if !m.HasPending(Anchor) || !m.HasPending(a) || m.HasPending(End) || m.LedTo(Anchor, 9) != End {
		t.Error("a pending entry is not seen, or is followed")
	}
	b := m.Make(4, 40, a)
	if m.LedTo(b, 9) != End {
		t.Error("a link that has a pending entry alone led somewhere")
	}
	m.Stamp(b, 0)
	if m.LedTo(b, 0) != a {
		t.Error("a link with the stamp 0 led nowhere at 0")
	}
	m.Stamp(a, 1)
	if !m.HasPending(Anchor) || m.HasPending(a) {
		t.Error("another link's entry was stamped")
	}
	m.Stamp(Anchor, 1)
	if m.HasPending(Anchor) || m.LedTo(Anchor, 9) != a || m.LedTo(Anchor, 0) != End {
		t.Error("the entry has no stamp yet")
	}
	m.Pend(a, End)
	m.Unpend(a)
	if m.HasPending(a) {
		t.Error("the pending entry is still there")
	}
}

func TestDrop(t *testing.T) { // P10: an entry goes if its link has one with a greater stamp that is at most the time
	for _, c := range []struct {
		time, entries int
		anchor, a     []int
	}{
		{-1, 11, []int{End, 0, 2, 3, 3, 5, 2, 9, End, -1}, []int{End, 0, 3, 4, End, 6}},
		{0, 11, []int{End, 0, 2, 3, 3, 5, 2, 9, End, -1}, []int{End, 0, 3, 4, End, 6}},
		{2, 11, []int{End, 0, 2, 3, 3, 5, 2, 9, End, -1}, []int{End, 0, 3, 4, End, 6}},
		{3, 12, []int{2, 3, 3, 5, 2, 9, End, -1}, []int{End, 0, 3, 4, End, 6}},
		{4, 13, []int{2, 3, 3, 5, 2, 9, End, -1}, []int{3, 4, End, 6}},
		{5, 14, []int{3, 5, 2, 9, End, -1}, []int{3, 4, End, 6}},
		{8, 15, []int{3, 5, 2, 9, End, -1}, []int{End, 6}},
		{9, 16, []int{2, 9, End, -1}, []int{End, 6}},
		{1 << 40, 16, []int{2, 9, End, -1}, []int{End, 6}},
	} {
		m := New(3, 20)
		a := m.Make(5, 50, End)
		m.Stamp(a, 0)
		b := m.Make(6, 60, a)
		if a != 2 || b != 3 {
			t.Fatalf("the nodes are %d and %d: what links remember is written with 2 and 3 above", a, b)
		}
		turn(m, Anchor, b, 5)
		turn(m, Anchor, a, 3)
		turn(m, a, b, 4)
		turn(m, Anchor, a, 9)
		turn(m, a, End, 6)
		m.Pend(Anchor, End)
		for range 2 { // the second time there is nothing left to do
			m.Drop(c.time)
			room(t, m, 1, c.entries)
			remembers(t, m, Anchor, c.anchor...)
			remembers(t, m, a, c.a...)
			remembers(t, m, b, a, -1)
		}
		if m.Node(Anchor).Next != a || m.Node(a).Next != End || m.Node(b).Next != a {
			t.Errorf("at the time %d links were turned", c.time)
		}
	}
}

func TestDroppedEntriesTellNothing(t *testing.T) { // P10
	m := New(2, 4)
	a := m.Make(5, 50, End)
	m.Stamp(a, 1)
	turn(m, Anchor, a, 1)
	turn(m, Anchor, End, 2)
	m.Drop(2)
	for time := range 4 {
		if to := m.LedTo(Anchor, time); to != End {
			t.Errorf("at the time %d the link led to %d, want the end", time, to)
		}
	}
	m.Free(a)
	m.Pend(Anchor, a)
	room(t, m, 2, 2)
	m.Drop(9)
	room(t, m, 2, 2)
}

func TestRetiredNodes(t *testing.T) { // P10
	m := New(4, 9)
	a := m.Make(5, 50, End)
	b := m.Make(6, 60, End)
	c := m.Make(7, 70, End)
	if l := m.RetiredNodes(); len(l) != 0 {
		t.Errorf("retired: %v", l)
	}
	m.Kill(b)
	m.Retire(c, 0)
	m.Retire(a, 9)
	if l := m.RetiredNodes(); len(l) != 2 || l[0] != a || l[1] != c {
		t.Errorf("retired: %v, want %d and %d", l, a, c)
	}
	m.Free(a)
	if l := m.RetiredNodes(); len(l) != 1 || l[0] != c {
		t.Errorf("retired: %v, want %d", l, c)
	}
	m.Make(8, 80, End)
	if l := m.RetiredNodes(); len(l) != 1 || l[0] != c {
		t.Errorf("retired: %v, want %d", l, c)
	}
}

func TestMakeTakesNothingIfAPoolIsEmpty(t *testing.T) { // P8
	m := New(0, 9)
	if m.Make(5, 50, End) != None {
		t.Error("a node out of an empty pool")
	}
	room(t, m, 0, 8)
	m = New(4, 1)
	if m.Make(5, 50, End) != None {
		t.Error("an entry out of an empty pool")
	}
	m.Pend(Anchor, End)
	room(t, m, 4, 0)
	remembers(t, m, Anchor, End, 0)
}

func TestLocks(t *testing.T) { // P8: Lock, Unlock
	m := New(2, 6)
	a := m.Make(5, 50, End)
	if !m.Lock(Anchor, 0) || !m.Lock(a, 0) || m.Lock(a, 1) || m.Lock(Anchor, 1) || !m.Lock(End, 1) {
		t.Error("a lock that another thread has was given, or a free one was not")
	}
	m.Unlock(1)
	if m.Lock(a, 1) || !m.Lock(End, 0) {
		t.Error("a thread has given back another one's lock, or not its own")
	}
	m.Unlock(0)
	if !m.Lock(a, 1) || !m.Lock(Anchor, 2) {
		t.Error("a lock was not given back")
	}
}

func TestOddNumbers(t *testing.T) { // P1
	m := New(2, 6)
	for _, n := range []int{-1 << 63, -2, None, 4, 5, 1<<63 - 1} {
		if m.Node(n) != (Node{}) || m.Lock(n, 0) {
			t.Errorf("there is a node %d", n)
		}
		m.Kill(n)
		m.Retire(n, 1)
		m.Free(n)
		m.Unpend(n)
		m.Lead(n)
		m.Stamp(n, 1)
		m.Unlock(n)
		m.Drop(n)
		if m.HasPending(n) || m.LedTo(n, 9) != End {
			t.Errorf("node %d has a link", n)
		}
		if m.HasPending(Anchor) || m.LedTo(Anchor, n) != End {
			t.Errorf("at the time %d", n)
		}
	}
	m.Free(Anchor)
	m.Free(End)
	room(t, m, 2, 5)
	remembers(t, m, Anchor, End, 0)
	New(-1<<63, -1)
}
