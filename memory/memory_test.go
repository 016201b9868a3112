package memory

import (
	"testing"

	"bundle/api"
)

func room(t *testing.T, m *Memory, nodes, entries int) {
	t.Helper()
	if n, e := m.Room(); n != nodes || e != entries {
		t.Fatalf("Room = %d, %d, want %d, %d", n, e, nodes, entries)
	}
}

func link(from int) Link { return Link{From: from} }
func right(from int) Link {
	return Link{From: from, Side: 1}
}

// listNode: a node of a list, of which the link's entry is pending.
func listNode(m *Memory, key, next int) int {
	n := m.Make(key, 10*key)
	m.AddLink(n, next)
	return n
}

// inner: an inner node, of which the entries have the stamp.
func inner(m *Memory, key, lesser, greater, stamp int) int {
	n := m.Make(key, 0)
	m.AddLink(n, lesser)
	m.AddLink(n, greater)
	m.StampNew(n, stamp)
	return n
}

// remembers: the link has just these entries: node and stamp by turns, -1 for a pending one.
func remembers(t *testing.T, m *Memory, l Link, want ...int) {
	t.Helper()
	count := 0
	for _, e := range m.entries {
		if !e.used || e.link != l {
			continue
		}
		count++
		stamp := e.stamp
		if e.pending {
			stamp = -1
		}
		found := false
		for i := 0; i+1 < len(want); i += 2 {
			found = found || want[i] == e.to && want[i+1] == stamp
		}
		if !found {
			t.Fatalf("the link %+v remembers %+v, want %v", l, e, want)
		}
	}
	if 2*count != len(want) {
		t.Fatalf("the link %+v has %d entries, want %v", l, count, want)
	}
}

// leads: the link leads to the node now.
func leads(t *testing.T, m *Memory, l Link, want int) {
	t.Helper()
	if to := m.LeadsTo(l); to != want {
		t.Fatalf("the link %+v leads to %d, want %d", l, to, want)
	}
}

func TestNew(t *testing.T) { // P3
	m := New(4, 9)
	room(t, m, 4, 8)
	remembers(t, m, link(Anchor), End, 0)
	remembers(t, m, right(Anchor))
	remembers(t, m, link(End))
	leads(t, m, link(Anchor), End)
	leads(t, m, right(Anchor), None)
	leads(t, m, link(End), None)
	if m.Node(End).Key != api.MaxKey+1 || m.Node(Anchor).IsInner() || m.Node(End).IsInner() {
		t.Errorf("the anchor is %+v, the end %+v", m.Node(Anchor), m.Node(End))
	}
}

func TestMakeAndFree(t *testing.T) { // P7, P8: Prepare, Take
	m := New(2, 6)
	a := m.Make(5, 50)
	room(t, m, 1, 5)
	leads(t, m, link(a), None)
	m.AddLink(a, End)
	m.Pend(link(Anchor), a)
	room(t, m, 1, 3)
	if n := m.Node(a); n.Key != 5 || n.Value != 50 || n.Dead || n.Retired || n.IsInner() {
		t.Errorf("the new node is %+v", n)
	}
	leads(t, m, link(a), End)
	remembers(t, m, link(a), End, -1)
	remembers(t, m, link(Anchor), End, 0, a, -1)
	m.StampNew(a, 1)
	remembers(t, m, link(a), End, 1)
	remembers(t, m, link(Anchor), End, 0, a, -1)
	leads(t, m, link(Anchor), End) // ahead of Lead
	m.Lead(link(Anchor))
	m.Stamp(link(Anchor), 1)
	remembers(t, m, link(Anchor), End, 0, a, 1)
	leads(t, m, link(Anchor), a)
	b := listNode(m, 7, End)
	m.Pend(link(a), b)
	room(t, m, 0, 1)
	m.Unpend(link(a))
	m.Free(b)
	room(t, m, 1, 3)
	remembers(t, m, link(a), End, 1)
	remembers(t, m, link(b))
	m.Free(a)
	room(t, m, 2, 4)
	remembers(t, m, link(Anchor), End, 0, a, 1)
}

func TestAnInnerNode(t *testing.T) { // P11: Prepare, Take
	m := New(4, 9)
	leaf := m.Make(5, 50)
	n := m.Make(api.MaxKey+1, 0)
	room(t, m, 2, 8)
	m.AddLink(n, leaf)
	if m.Node(n).IsInner() {
		t.Error("an inner node with one link")
	}
	m.AddLink(n, End)
	if !m.Node(n).IsInner() || m.Node(leaf).IsInner() {
		t.Error("the node with two links is no inner node, or the leaf is one")
	}
	room(t, m, 2, 6)
	leads(t, m, link(n), leaf)
	leads(t, m, right(n), End)
	remembers(t, m, link(n), leaf, -1)
	remembers(t, m, right(n), End, -1)
	m.AddLink(n, End) // no node has three links
	room(t, m, 2, 6)
	remembers(t, m, right(n), End, -1)
	m.StampNew(n, 4)
	remembers(t, m, link(n), leaf, 4)
	remembers(t, m, right(n), End, 4)
	m.Free(n)
	room(t, m, 3, 8)
	remembers(t, m, link(n))
	remembers(t, m, right(n))
	again := m.Make(3, 30)
	if again != n || m.Node(again).IsInner() {
		t.Errorf("used again as a leaf: %+v", m.Node(again))
	}
	leads(t, m, link(again), None)
	leads(t, m, right(again), None)
}

func TestTheLinkForAKey(t *testing.T) { // Words
	m := New(4, 9)
	leaf := m.Make(5, 50)
	n := inner(m, 7, leaf, End, 1)
	list := listNode(m, 7, End)
	for _, key := range []int{0, 6, 7, 8, api.MaxKey} {
		if l := m.LinkFor(Anchor, key); l != link(Anchor) {
			t.Errorf("at the anchor the link for %d is %+v", key, l)
		}
		if l := m.LinkFor(list, key); l != link(list) {
			t.Errorf("in a list the link for %d is %+v", key, l)
		}
		want := link(n)
		if key >= 7 {
			want = right(n)
		}
		if l := m.LinkFor(n, key); l != want || l.Other().Other() != want || l.Other() == want || l.Other().From != n {
			t.Errorf("at an inner node with the key 7 the link for %d is %+v, the other one %+v", key, l, l.Other())
		}
	}
}

func TestTheLinksOfANodeKnowNothingOfOneAnother(t *testing.T) { // P11
	m := New(6, 30)
	a := m.Make(3, 30)
	b := m.Make(5, 50)
	n := inner(m, 5, a, b, 2)
	m.Pend(right(n), End)
	if m.HasPending(link(n)) || !m.HasPending(right(n)) {
		t.Error("the other link pends")
	}
	m.Lead(link(n))
	m.Stamp(link(n), 3)
	m.Unpend(link(n))
	remembers(t, m, right(n), b, 2, End, -1)
	leads(t, m, right(n), b)
	m.Lead(right(n))
	leads(t, m, link(n), a)
	leads(t, m, right(n), End)
	m.Stamp(right(n), 3)
	turn(m, link(n), b, 7)
	for _, c := range []struct{ time, left, right int }{{2, a, b}, {3, a, End}, {6, a, End}, {7, b, End}} {
		if l, r := m.LedTo(link(n), c.time), m.LedTo(right(n), c.time); l != c.left || r != c.right {
			t.Errorf("at the time %d the links led to %d and %d, want %d and %d", c.time, l, r, c.left, c.right)
		}
	}
	m.Drop(6)
	remembers(t, m, link(n), a, 2, b, 7) // 3 is the other link's stamp
	remembers(t, m, right(n), End, 3)
	m.Pend(link(n), a)
	m.Unpend(right(n))
	remembers(t, m, link(n), a, 2, b, 7, a, -1)
	m.Unpend(link(n))
	remembers(t, m, link(n), a, 2, b, 7)
	m.Drop(7)
	remembers(t, m, link(n), b, 7)
	remembers(t, m, right(n), End, 3)
}

func TestANodeUsedAgainKnowsNothing(t *testing.T) { // P8
	m := New(1, 6)
	a := listNode(m, 5, End)
	m.Lock(a, 3)
	m.Kill(a)
	m.Retire(a, 9)
	if n := m.Node(a); !n.Dead || !n.Retired || n.RetiredAt != 9 {
		t.Errorf("killed and retired: %+v", n)
	}
	m.Free(a)
	b := m.Make(6, 60)
	if n := m.Node(b); a != b || n.Key != 6 || n.Value != 60 || n.Dead || n.Retired || n.RetiredAt != 0 || !m.Lock(b, 4) {
		t.Errorf("used again: %+v", n)
	}
}

func TestLinksRemember(t *testing.T) { // Words: to which node a link led at a time
	m := New(4, 20)
	a := listNode(m, 5, End)
	m.StampNew(a, 3)
	b := listNode(m, 6, End)
	m.StampNew(b, 8)
	turn(m, link(Anchor), a, 3)
	turn(m, link(a), b, 8)
	turn(m, link(Anchor), b, 9)
	turn(m, link(Anchor), End, 1<<40)
	for _, c := range []struct{ from, time, to int }{
		{Anchor, 0, End}, {Anchor, 1, End}, {Anchor, 2, End}, {Anchor, 3, a}, {Anchor, 4, a}, {Anchor, 8, a}, {Anchor, 9, b}, {Anchor, 10, b},
		{Anchor, 1<<40 - 1, b}, {Anchor, 1 << 40, End}, {a, 3, End}, {a, 7, End}, {a, 8, b}, {a, 9, b}, {b, 8, End}, {b, 99, End},
	} {
		if to := m.LedTo(link(c.from), c.time); to != c.to {
			t.Errorf("at the time %d the link of %d led to %d, want %d", c.time, c.from, to, c.to)
		}
	}
}

// turn: the link leads to another node, with a stamp.
func turn(m *Memory, l Link, to, stamp int) {
	m.Pend(l, to)
	m.Lead(l)
	m.Stamp(l, stamp)
}

func TestTheOrderOfEntriesIsNothing(t *testing.T) { // Words: the stamps alone count
	m := New(3, 20)
	a := m.Make(5, 50)
	turn(m, link(Anchor), a, 7)
	turn(m, link(Anchor), End, 5)
	turn(m, link(Anchor), a, 2)
	for time, want := range []int{End, End, a, a, a, End, End, a, a} {
		if to := m.LedTo(link(Anchor), time); to != want {
			t.Errorf("at the time %d the link led to %d, want %d", time, to, want)
		}
	}
}

func TestAPendingEntryTellsOfNoTime(t *testing.T) { // Words, P9
	m := New(2, 9)
	if m.HasPending(link(Anchor)) || m.HasPending(link(End)) {
		t.Error("a pending entry at first")
	}
	a := listNode(m, 5, End)
	m.Pend(link(Anchor), a)
	m.Lead(link(Anchor))
	if !m.HasPending(link(Anchor)) || !m.HasPending(link(a)) || m.HasPending(link(End)) || m.LedTo(link(Anchor), 9) != End {
		t.Error("a pending entry is not seen, or is followed")
	}
	b := listNode(m, 4, a)
	if m.LedTo(link(b), 9) != End {
		t.Error("a link that has a pending entry alone led somewhere")
	}
	m.StampNew(b, 0)
	if m.LedTo(link(b), 0) != a {
		t.Error("a link with the stamp 0 led nowhere at 0")
	}
	m.StampNew(a, 1)
	if !m.HasPending(link(Anchor)) || m.HasPending(link(a)) {
		t.Error("another link's entry was stamped")
	}
	m.Stamp(link(Anchor), 1)
	if m.HasPending(link(Anchor)) || m.LedTo(link(Anchor), 9) != a || m.LedTo(link(Anchor), 0) != End {
		t.Error("the entry has no stamp yet")
	}
	m.Pend(link(a), End)
	m.Unpend(link(a))
	if m.HasPending(link(a)) {
		t.Error("the pending entry is still there")
	}
}

func TestDrop(t *testing.T) { // P10: an entry goes if its link has one with a greater stamp that is at most the time
	for _, c := range []struct {
		time, entries int
		anchor, a     []int
	}{
		{-1, 11, []int{End, 0, 2, 3, 3, 5, 2, 9, End, -1}, []int{End, 0, 3, 4, End, 6}},
		{0, 11, []int{End, 0, 2, 3, 3, 5, 2, 9, End, -1}, []int{End, 0, 3, 4, End, 6}},
		{2, 11, []int{End, 0, 2, 3, 3, 5, 2, 9, End, -1}, []int{End, 0, 3, 4, End, 6}},
		{3, 12, []int{2, 3, 3, 5, 2, 9, End, -1}, []int{End, 0, 3, 4, End, 6}},
		{4, 13, []int{2, 3, 3, 5, 2, 9, End, -1}, []int{3, 4, End, 6}},
		{5, 14, []int{3, 5, 2, 9, End, -1}, []int{3, 4, End, 6}},
		{8, 15, []int{3, 5, 2, 9, End, -1}, []int{End, 6}},
		{9, 16, []int{2, 9, End, -1}, []int{End, 6}},
		{1 << 40, 16, []int{2, 9, End, -1}, []int{End, 6}},
	} {
		m := New(3, 20)
		a := listNode(m, 5, End)
		m.StampNew(a, 0)
		b := listNode(m, 6, a)
		if a != 2 || b != 3 {
			t.Fatalf("the nodes are %d and %d: what links remember is written with 2 and 3 above", a, b)
		}
		turn(m, link(Anchor), b, 5)
		turn(m, link(Anchor), a, 3)
		turn(m, link(a), b, 4)
		turn(m, link(Anchor), a, 9)
		turn(m, link(a), End, 6)
		m.Pend(link(Anchor), End)
		for range 2 { // the second time there is nothing left to do
			m.Drop(c.time)
			room(t, m, 1, c.entries)
			remembers(t, m, link(Anchor), c.anchor...)
			remembers(t, m, link(a), c.a...)
			remembers(t, m, link(b), a, -1)
		}
		leads(t, m, link(Anchor), a)
		leads(t, m, link(a), End)
		leads(t, m, link(b), a)
	}
}

func TestDroppedEntriesTellNothing(t *testing.T) { // P10
	m := New(2, 4)
	a := listNode(m, 5, End)
	m.StampNew(a, 1)
	turn(m, link(Anchor), a, 1)
	turn(m, link(Anchor), End, 2)
	m.Drop(2)
	for time := range 4 {
		if to := m.LedTo(link(Anchor), time); to != End {
			t.Errorf("at the time %d the link led to %d, want the end", time, to)
		}
	}
	m.Free(a)
	m.Pend(link(Anchor), a)
	room(t, m, 2, 2)
	m.Drop(9)
	room(t, m, 2, 2)
}

func TestRetiredNodes(t *testing.T) { // P10
	m := New(4, 9)
	a := m.Make(5, 50)
	b := m.Make(6, 60)
	c := m.Make(7, 70)
	if l := m.RetiredNodes(); len(l) != 0 {
		t.Errorf("retired: %v", l)
	}
	m.Kill(b)
	m.Retire(c, 0)
	m.Retire(a, 9)
	if l := m.RetiredNodes(); len(l) != 2 || l[0] != a || l[1] != c {
		t.Errorf("retired: %v, want %d and %d", l, a, c)
	}
	m.Free(a)
	if l := m.RetiredNodes(); len(l) != 1 || l[0] != c {
		t.Errorf("retired: %v, want %d", l, c)
	}
	m.Make(8, 80)
	if l := m.RetiredNodes(); len(l) != 1 || l[0] != c {
		t.Errorf("retired: %v, want %d", l, c)
	}
}

func TestNothingIsTakenOutOfAnEmptyPool(t *testing.T) { // P8
	m := New(0, 9)
	if m.Make(5, 50) != None {
		t.Error("a node out of an empty pool")
	}
	room(t, m, 0, 8)
	m = New(4, 1)
	a := m.Make(5, 50)
	m.AddLink(a, End)
	room(t, m, 3, 0)
	leads(t, m, link(a), None)
	m.Pend(link(Anchor), End)
	room(t, m, 3, 0)
	remembers(t, m, link(Anchor), End, 0)
}

func TestLocks(t *testing.T) { // P8: Lock, Unlock
	m := New(2, 6)
	a := m.Make(5, 50)
	if !m.Lock(Anchor, 0) || !m.Lock(a, 0) || m.Lock(a, 1) || m.Lock(Anchor, 1) || !m.Lock(End, 1) {
		t.Error("a lock that another thread has was given, or a free one was not")
	}
	m.Unlock(1)
	if m.Lock(a, 1) || !m.Lock(End, 0) {
		t.Error("a thread has given back another one's lock, or not its own")
	}
	m.Unlock(0)
	if !m.Lock(a, 1) || !m.Lock(Anchor, 2) {
		t.Error("a lock was not given back")
	}
}

func TestOddNumbers(t *testing.T) { // P1
	m := New(2, 6)
	odd := []int{-1 << 63, -2, None, 4, 5, 1<<63 - 1}
	for _, n := range odd {
		if m.Node(n) != (Node{}) || m.Lock(n, 0) {
			t.Errorf("there is a node %d", n)
		}
		m.Kill(n)
		m.Retire(n, 1)
		m.Free(n)
		m.StampNew(n, 1)
		m.AddLink(n, End)
		m.Unlock(n)
		m.Drop(n)
		if l := m.LinkFor(n, n); l != link(n) {
			t.Errorf("node %d has the link %+v", n, l)
		}
		if m.HasPending(link(Anchor)) || m.LedTo(link(Anchor), n) != End {
			t.Errorf("at the time %d", n)
		}
	}
	for _, l := range []Link{link(-1 << 63), link(None), link(4), link(1<<63 - 1), link(End), right(Anchor), {Anchor, -1}, {Anchor, 2}, {Anchor, -1 << 63}, {Anchor, 1<<63 - 1}, {9, 9}} {
		m.Pend(l, End)
		m.Lead(l)
		m.Stamp(l, 1)
		m.Unpend(l)
		if m.HasPending(l) || m.LedTo(l, 9) != End || m.LeadsTo(l) != None {
			t.Errorf("there is a link %+v", l)
		}
		remembers(t, m, l)
	}
	m.Free(Anchor)
	m.Free(End)
	room(t, m, 2, 5)
	remembers(t, m, link(Anchor), End, 0)
	New(-1<<63, -1)
}
