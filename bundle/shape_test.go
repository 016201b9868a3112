package bundle

import (
	"fmt"
	"testing"

	"bundle/api"
	"bundle/memory"
)

// treeStore: a tree with the keys in it, each with ten times its number as the value.
func treeStore(t *testing.T, keys ...int) *Store {
	t.Helper()
	s, e := New(api.Config{Kind: api.Tree, Threads: 2, Nodes: 20, Entries: 60, Limit: 99})
	if e != api.OK {
		t.Fatalf("New: %d", e)
	}
	for _, key := range keys {
		done(t, s, api.Op{Kind: api.Insert, Key: key, Value: 10 * key})
	}
	return s
}

// done: thread 1 does an operation.
func done(t *testing.T, s *Store, op api.Op) {
	t.Helper()
	begun(t, s, 1, op)
	for i := 0; s.threads[1].busy; i++ {
		if i == 100 {
			t.Fatalf("%+v does not end", op)
		}
		stepped(t, s, 1, 1)
	}
}

// shape: the node to which the link leads now: a leaf by its key, an inner node by its key and what its links lead to.
func shape(s *Store, l memory.Link, depth int) string {
	if depth == 0 {
		return "..."
	}
	number := s.memory.LeadsTo(l)
	node := s.memory.Node(number)
	name := fmt.Sprint(node.Key)
	if node.Key == api.MaxKey+1 {
		name = "end"
	}
	if !node.IsInner() {
		if number != memory.End && node.Value != 10*node.Key {
			name += "?"
		}
		return name
	}
	first := memory.Link{From: number, Side: 0}
	return fmt.Sprintf("%s(%s %s)", name, shape(s, first, depth-1), shape(s, first.Other(), depth-1))
}

func hasShape(t *testing.T, s *Store, want string) {
	t.Helper()
	if text := shape(s, memory.Link{From: memory.Anchor}, 30); text != want {
		t.Errorf("the tree is %s, want %s", text, want)
	}
}

func TestShapesOfTrees(t *testing.T) { // P11: the inner node has the greater key; the lesser one is at link 0
	for _, c := range []struct {
		keys []int
		want string
	}{
		{nil, "end"}, {[]int{5}, "end(5 end)"}, {[]int{0}, "end(0 end)"}, {[]int{api.MaxKey}, fmt.Sprintf("end(%d end)", api.MaxKey)},
		{[]int{5, 3}, "end(5(3 5) end)"}, {[]int{3, 5}, "end(5(3 5) end)"},
		{[]int{5, 3, 4}, "end(5(4(3 4) 5) end)"}, {[]int{5, 3, 7}, "end(5(3 7(5 7)) end)"}, {[]int{5, 3, 1}, "end(5(3(1 3) 5) end)"},
		{[]int{4, 2, 6, 5, 1}, "end(4(2(1 2) 6(5(4 5) 6)) end)"}, {[]int{1, 2, 3, 4}, "end(2(1 3(2 4(3 4))) end)"}, {[]int{4, 3, 2, 1}, "end(4(3(2(1 2) 3) 4) end)"},
	} {
		hasShape(t, treeStore(t, c.keys...), c.want)
	}
}

func TestShapesBehindARemove(t *testing.T) { // P11: what x's other link leads to comes into x's place
	for _, c := range []struct {
		keys []int
		out  int
		want string
	}{
		{[]int{5}, 5, "end"}, {[]int{5, 3}, 5, "end(3 end)"}, {[]int{5, 3}, 3, "end(5 end)"},
		{[]int{4, 2, 6}, 2, "end(6(4 6) end)"}, {[]int{4, 2, 6}, 4, "end(4(2 6) end)"}, {[]int{4, 2, 6}, 6, "end(4(2 4) end)"},
		{[]int{5, 9, 7}, 9, "end(7(5 7) end)"}, {[]int{5, 9, 7}, 5, "end(9(7 9) end)"}, {[]int{5, 9, 7}, 7, "end(9(5 9) end)"},
	} {
		s := treeStore(t, c.keys...)
		done(t, s, api.Op{Kind: api.Remove, Key: c.out})
		hasShape(t, s, c.want)
	}
	s := treeStore(t, 4, 2, 6)
	done(t, s, api.Op{Kind: api.Remove, Key: 4}) // an inner node has a key that no leaf has
	done(t, s, api.Op{Kind: api.Insert, Key: 4, Value: 40})
	hasShape(t, s, "end(4(2 6(4 6)) end)")
	done(t, s, api.Op{Kind: api.Remove, Key: 4})
	done(t, s, api.Op{Kind: api.Insert, Key: 3, Value: 30})
	hasShape(t, s, "end(4(3(2 3) 6) end)")
}

func TestStepsOfAnInsertInATree(t *testing.T) { // P11: Prepare, Take, Link, Stamp
	for _, c := range []struct {
		key         int
		left, right string // what the links of the new inner node remember
		shape       string
	}{
		{3, "4@%s", "2@%s", "end(5(3 5) end)"}, // 2 is the leaf with the key 5, 3 the uppermost node
		{7, "2@%s", "4@%s", "end(7(5 7) end)"},
	} {
		s := treeStore(t, 5)
		begun(t, s, 0, api.Op{Kind: api.Insert, Key: c.key, Value: 10 * c.key})
		stepped(t, s, 0, 7) // Check
		remembers(t, s, 3, 0, "2@1")
		stepped(t, s, 0, 1) // Prepare
		if leaf, inner := s.memory.Node(4), s.memory.Node(5); leaf.Key != c.key || leaf.Value != 10*c.key || leaf.IsInner() || inner.Key != max(5, c.key) || !inner.IsInner() {
			t.Errorf("made are %+v and %+v", leaf, inner)
		}
		hasShape(t, s, "end(5 end)")
		remembers(t, s, 3, 0, "2@1 5@pending")
		remembers(t, s, 3, 1, "1@1")
		remembers(t, s, 5, 0, fmt.Sprintf(c.left, "pending"))
		remembers(t, s, 5, 1, fmt.Sprintf(c.right, "pending"))
		remembers(t, s, 4, 0, "")
		stepped(t, s, 0, 1) // Take
		hasShape(t, s, "end(5 end)")
		remembers(t, s, 3, 0, "2@1 5@pending")
		remembers(t, s, 5, 0, fmt.Sprintf(c.left, "2"))
		remembers(t, s, 5, 1, fmt.Sprintf(c.right, "2"))
		stepped(t, s, 0, 1) // Link
		hasShape(t, s, c.shape)
		remembers(t, s, 3, 0, "2@1 5@pending")
		stepped(t, s, 0, 1) // Stamp
		remembers(t, s, 3, 0, "2@1 5@2")
		remembers(t, s, 3, 1, "1@1")
	}
}

func TestStepsOfARemoveInATree(t *testing.T) { // P11: Prepare, Take, Kill, Link, Stamp, Unlock
	s := treeStore(t, 5, 3, 9) // 2, 4 and 6 are the leaves, 3, 5 and 7 the inner nodes above them
	hasShape(t, s, "end(5(3 9(5 9)) end)")
	isDead := func(want ...bool) {
		t.Helper()
		for i, number := range []int{3, 5, 7, 2, 4, 6} {
			if n := s.memory.Node(number); n.Dead != want[i] || n.Retired {
				t.Errorf("node %d is %+v", number, n)
			}
		}
	}
	begun(t, s, 0, api.Op{Kind: api.Remove, Key: 3})
	stepped(t, s, 0, 9) // Check
	remembers(t, s, 3, 0, "2@1 5@2")
	stepped(t, s, 0, 1) // Prepare: x is 5, c is 4
	remembers(t, s, 3, 0, "2@1 5@2 7@pending")
	stepped(t, s, 0, 1) // Take
	isDead(false, false, false, false, false, false)
	stepped(t, s, 0, 1) // Kill
	isDead(false, true, false, false, true, false)
	hasShape(t, s, "end(5(3 9(5 9)) end)")
	stepped(t, s, 0, 1) // Link
	hasShape(t, s, "end(9(5 9) end)")
	remembers(t, s, 3, 0, "2@1 5@2 7@pending")
	done(t, s, api.Op{Kind: api.Insert, Key: 12, Value: 120}) // the clock is 5
	stepped(t, s, 0, 1)                                       // Stamp
	remembers(t, s, 3, 0, "2@1 5@2 7@4")
	remembers(t, s, 5, 0, "4@2") // what was taken out leads on
	remembers(t, s, 5, 1, "2@2 7@3")
	isDead(false, true, false, false, true, false)
	stepped(t, s, 0, 1) // Unlock
	for _, number := range []int{3, 5, 7, 2, 4, 6} {
		isOut := number == 5 || number == 4
		if n := s.memory.Node(number); n.Dead != isOut || n.Retired != isOut || isOut && n.RetiredAt != 5 {
			t.Errorf("node %d is %+v", number, n)
		}
	}
	stepped(t, s, 0, 1)
	hasShape(t, s, "end(9(5 12(9 12)) end)")
}

func TestNothingStaysBehindErrClockInATree(t *testing.T) { // P11: Take
	for _, op := range []api.Op{{Kind: api.Insert, Key: 3}, {Kind: api.Insert, Key: 7}, {Kind: api.Remove, Key: 5}} {
		s := treeStore(t, 5)
		s.limit = 1
		before := fmt.Sprintf("%+v", *s.memory)
		done(t, s, op)
		if s.threads[1].last.Err != api.ErrClock {
			t.Errorf("%+v answers %+v", op, s.threads[1].last)
		}
		if after := fmt.Sprintf("%+v", *s.memory); after != before {
			t.Errorf("%+v has changed the store from\n%s\nto\n%s", op, before, after)
		}
	}
}

func TestNothingIsTakenByARefusalInATree(t *testing.T) { // P11: nor by a lack of room
	for _, op := range []api.Op{{Kind: api.Insert, Key: 5}, {Kind: api.Insert, Key: 3}, {Kind: api.Remove, Key: 4}, {Kind: api.Remove, Key: 6}, {Kind: api.Lookup, Key: 5}, {Kind: api.Scan, Spans: []api.Span{{Lo: 0, Hi: 9}}}} {
		s := treeStore(t, 5, 3)
		before := fmt.Sprintf("%+v", *s.memory)
		done(t, s, op)
		if after := fmt.Sprintf("%+v", *s.memory); after != before || s.clock != 2 {
			t.Errorf("%+v has changed the store from\n%s\nto\n%s", op, before, after)
		}
	}
}

func TestScanNotesFromLoToHiInATree(t *testing.T) { // P11: leaves alone, from Lo to Hi
	s := treeStore(t, 4, 2, 6)
	begun(t, s, 0, api.Op{Kind: api.Scan, Spans: []api.Span{{Lo: 6, Hi: 6}, {Lo: 3, Hi: 3}}})
	links := []int{1, 1, 1, 1, 1, 2, 1, 2, 1, 0, 0}
	noted := []int{0, 0, 0, 0, 0, 0, 0, 0, 1, 2, 0} // 2 is below Lo; 4 is noted, though no span has it
	for i := range links {
		if w := s.threads[0].work; len(w.links) != links[i] || len(w.noted) != noted[i] {
			t.Errorf("behind %d steps %v is noted, %v is to be followed", i, w.noted, w.links)
		}
		if i+1 < len(links) {
			stepped(t, s, 0, 1)
		}
	}
	if s.threads[0].busy || s.threads[0].work.links != nil {
		t.Errorf("behind the last step: %+v", s.threads[0])
	}
}
