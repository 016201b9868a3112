package bundle_test

import (
	"iter"
	"slices"

	"bundle/api"
)

// A second telling of P8 to P11, to hold the program against: an operation, and a sweep, is plain code here that pauses behind each step, and nodes and entries are Go's own.

type modelNode struct {
	key, value int
	links      []*modelLink
	holder     int
	dead       bool
	retired    int // its time; -1: it is not retired
}

type modelLink struct {
	to      *modelNode // now
	entries []*modelEntry
}

type modelEntry struct {
	to    *modelNode
	stamp int // -1: pending
}

type model struct {
	isTree         bool
	nodes, entries int // in the pools
	clock, limit   int
	anchor         *modelNode
	out            []*modelNode // the anchor, and all nodes that are out of the pool
	threads        []modelThread
	sweepStep      func() (int, bool) // nil: no sweep has begun
}

// What a slot says, if it is not a time.
const (
	isIdle   = -1
	isComing = -2
)

type modelThread struct {
	busy, hasEnded bool
	slot           int
	step           func() (int, bool)
	answer         api.Answer
}

func newModel(c api.Config) *model {
	end := newNode(api.MaxKey+1, 0)
	anchor := newNode(-1, 0, end)
	anchor.links[0].entries[0].stamp = 0
	m := &model{isTree: c.Kind == api.Tree, nodes: c.Nodes, entries: c.Entries - 1, limit: c.Limit, anchor: anchor, out: []*modelNode{anchor}, threads: make([]modelThread, c.Threads)}
	for i := range m.threads {
		m.threads[i].slot = isIdle
	}
	return m
}

// newNode: with a link to each of the nodes, and a pending entry at each.
func newNode(key, value int, to ...*modelNode) *modelNode {
	n := &modelNode{key: key, value: value, holder: -1, retired: -1}
	for _, other := range to {
		n.links = append(n.links, &modelLink{to: other, entries: []*modelEntry{{to: other, stamp: -1}}})
	}
	return n
}

func (m *model) begin(thread int, op api.Op) {
	th := &m.threads[thread]
	th.busy = true
	th.step, _ = iter.Pull(func(yield func(int) bool) {
		pause := func(how int) { yield(how) }
		answer := m.run(thread, op, pause)
		th.slot, th.busy, th.hasEnded, th.answer = isIdle, false, true, answer
		pause(api.Ended) // Leave
	})
}

func (m *model) step(thread int) int {
	how, _ := m.threads[thread].step()
	return how
}

func (m *model) run(thread int, op api.Op, pause func(int)) api.Answer {
	m.threads[thread].slot = isComing
	pause(api.Moved) // Come
	time := m.clock
	pause(api.Moved) // Read
	m.threads[thread].slot = time
	pause(api.Moved) // Announce
	switch op.Kind {
	case api.Lookup:
		return m.lookup(op.Key, time, pause)
	case api.Scan:
		return m.scan(op.Spans, time, pause)
	}
	return m.update(thread, op, pause)
}

// spot: what a walk has found, and what an update has to do with it.
type spot struct {
	c       *modelNode
	locks   []*modelNode
	isSame  func() bool
	turning *modelLink
	made    func() []*modelNode // by Insert; the link then leads to the last of them
	kept    func() *modelNode   // the link then leads there, if Remove takes something out
	killed  []*modelNode
}

func (m *model) update(thread int, op api.Op, pause func(int)) api.Answer {
	for {
		at := m.findInList
		if m.isTree {
			at = m.findInTree
		}
		found := at(op, pause)
		for _, n := range found.locks {
			for n.holder != -1 {
				pause(api.Waited)
			}
			n.holder = thread
			pause(api.Moved)
		}
		if found.isSame() {
			answer := m.change(op, found, pause)
			release(found.locks)
			if op.Kind == api.Remove && answer.Did {
				for _, n := range found.killed {
					n.retired = m.clock
				}
			}
			pause(api.Moved) // Unlock
			return answer
		}
		release(found.locks)
		pause(api.Moved) // Check: a new walk
	}
}

func release(locked []*modelNode) {
	for _, n := range locked {
		n.holder = -1
	}
}

func (m *model) findInList(op api.Op, pause func(int)) spot {
	x := m.anchor
	c := x.links[0].to
	for pause(api.Moved); c.key < op.Key; pause(api.Moved) {
		x, c = c, c.links[0].to
	}
	found := spot{c: c, locks: []*modelNode{x}, turning: x.links[0], killed: []*modelNode{c}}
	if op.Kind == api.Remove && c.key == op.Key {
		found.locks = append(found.locks, c)
	}
	found.isSame = func() bool { return !x.dead && !c.dead && x.links[0].to == c }
	found.made = func() []*modelNode { return []*modelNode{newNode(op.Key, op.Value, c)} }
	found.kept = func() *modelNode { return c.links[0].to }
	return found
}

func (m *model) findInTree(op api.Op, pause func(int)) spot {
	path := []*modelNode{m.anchor}
	for n := m.anchor; len(n.links) > 0; pause(api.Moved) {
		n = n.linkFor(op.Key).to
		path = append(path, n)
	}
	c, x := path[len(path)-1], path[len(path)-2]
	if op.Kind == api.Remove && c.key == op.Key {
		g := path[len(path)-3]
		found := spot{c: c, locks: []*modelNode{g, x}, turning: g.linkFor(op.Key), killed: []*modelNode{c, x}}
		found.isSame = func() bool {
			return !g.dead && !x.dead && g.linkFor(op.Key).to == x && x.linkFor(op.Key).to == c
		}
		found.kept = func() *modelNode {
			if x.links[0].to == c {
				return x.links[1].to
			}
			return x.links[0].to
		}
		return found
	}
	found := spot{c: c, locks: []*modelNode{x}, turning: x.linkFor(op.Key)}
	found.isSame = func() bool { return !x.dead && x.linkFor(op.Key).to == c }
	found.made = func() []*modelNode {
		leaf := newNode(op.Key, op.Value)
		if leaf.key < c.key {
			return []*modelNode{leaf, newNode(c.key, 0, leaf, c)}
		}
		return []*modelNode{leaf, newNode(leaf.key, 0, c, leaf)}
	}
	return found
}

func (n *modelNode) linkFor(key int) *modelLink {
	if len(n.links) == 2 && key >= n.key {
		return n.links[1]
	}
	return n.links[0]
}

// change: from Check, which found the place as the walk had, to the step ahead of Unlock.
func (m *model) change(op api.Op, at spot, pause func(int)) api.Answer {
	isInsert := op.Kind == api.Insert
	if isInsert == (at.c.key == op.Key) {
		answer := api.Answer{Stamp: m.clock}
		pause(api.Moved) // Check
		return answer
	}
	pause(api.Moved) // Check
	var made []*modelNode
	var to *modelNode
	if isInsert {
		made = at.made()
		to = made[len(made)-1]
	} else {
		to = at.kept()
	}
	entries := 1
	for _, n := range made {
		entries += len(n.links)
	}
	if m.nodes < len(made) || m.entries < entries {
		pause(api.Moved) // Prepare
		return api.Answer{Err: api.ErrFull}
	}
	m.nodes -= len(made)
	m.entries -= entries
	m.out = append(m.out, made...)
	pending := &modelEntry{to: to, stamp: -1}
	at.turning.entries = append(at.turning.entries, pending)
	pause(api.Moved) // Prepare
	if m.clock == m.limit {
		for _, n := range made {
			m.free(n)
		}
		m.entries++
		at.turning.entries = at.turning.entries[:len(at.turning.entries)-1]
		pause(api.Moved) // Take
		return api.Answer{Err: api.ErrClock}
	}
	m.clock++
	answer := api.Answer{Did: true, Stamp: m.clock}
	for _, n := range made {
		for _, l := range n.links {
			l.entries[0].stamp = m.clock
		}
	}
	pause(api.Moved) // Take
	if !isInsert {
		answer.Value = at.c.value
		for _, n := range at.killed {
			n.dead = true
		}
		pause(api.Moved) // Kill
	}
	at.turning.to = to
	pause(api.Moved) // Link
	pending.stamp = answer.Stamp
	pause(api.Moved) // Stamp
	return answer
}

func (m *model) lookup(key, time int, pause func(int)) api.Answer {
	for l := m.anchor.links[0]; ; {
		c := l.follow(time, pause)
		isPassed := c.key < key
		if m.isTree {
			isPassed = len(c.links) > 0
		}
		if isPassed {
			l = c.linkFor(key)
			continue
		}
		if c.key != key {
			return api.Answer{Stamp: time}
		}
		return api.Answer{Did: true, Value: c.value, Stamp: time}
	}
}

func (m *model) scan(spans []api.Span, time int, pause func(int)) api.Answer {
	all := api.Span{Lo: api.MaxKey}
	for _, span := range spans {
		all.Lo, all.Hi = min(all.Lo, span.Lo), max(all.Hi, span.Hi)
	}
	walk := m.scanList
	if m.isTree {
		walk = m.scanTree
	}
	lists := make([][]api.Pair, len(spans))
	room := api.MaxPairs
	for _, n := range walk(m.anchor.links[0], all, time, pause) {
		for i, span := range spans {
			if span.Lo > n.key || span.Hi < n.key {
				continue
			}
			if room == 0 {
				return api.Answer{Err: api.ErrLarge}
			}
			room--
			lists[i] = append(lists[i], api.Pair{Key: n.key, Value: n.value})
		}
	}
	return api.Answer{Stamp: time, Spans: lists}
}

// scanList: the nodes from the link on.
func (m *model) scanList(l *modelLink, all api.Span, time int, pause func(int)) []*modelNode {
	c := l.follow(time, pause)
	if c.key > all.Hi {
		return nil
	}
	return append([]*modelNode{c}, m.scanList(c.links[0], all, time, pause)...)
}

// scanTree: the leaves below the link.
func (m *model) scanTree(l *modelLink, all api.Span, time int, pause func(int)) []*modelNode {
	c := l.follow(time, pause)
	if len(c.links) == 0 {
		return []*modelNode{c}
	}
	var leaves []*modelNode
	if all.Lo < c.key {
		leaves = append(leaves, m.scanTree(c.links[0], all, time, pause)...)
	}
	if all.Hi >= c.key {
		leaves = append(leaves, m.scanTree(c.links[1], all, time, pause)...)
	}
	return leaves
}

// follow: a step of a read, which may have to wait first. Entries come to a link in the order of their stamps, as whoever takes a stamp has the lock of its node.
func (l *modelLink) follow(time int, pause func(int)) *modelNode {
	for slices.ContainsFunc(l.entries, func(e *modelEntry) bool { return e.stamp == -1 }) {
		pause(api.Waited)
	}
	c := l.entries[0].to
	for _, e := range l.entries {
		if e.stamp <= time {
			c = e.to
		}
	}
	pause(api.Moved)
	return c
}

// free: a node goes back into the pool, with its entries.
func (m *model) free(n *modelNode) {
	m.nodes++
	for _, l := range n.links {
		m.entries += len(l.entries)
	}
	m.out = slices.DeleteFunc(m.out, func(other *modelNode) bool { return other == n })
}

func (m *model) sweep() int {
	if m.sweepStep == nil {
		m.sweepStep, _ = iter.Pull(func(yield func(int) bool) {
			m.runSweep(func(how int) { yield(how) })
			m.sweepStep = nil
			yield(api.Ended) // Free
		})
	}
	how, _ := m.sweepStep()
	return how
}

func (m *model) runSweep(pause func(int)) {
	clock := m.clock
	var noted []*modelNode
	for _, n := range m.out {
		if n.retired != -1 {
			noted = append(noted, n)
		}
	}
	pause(api.Moved) // Begin
	var times []int
	for i := range m.threads {
		for m.threads[i].slot == isComing {
			pause(api.Waited)
		}
		if m.threads[i].slot != isIdle {
			times = append(times, m.threads[i].slot)
		}
		pause(api.Moved)
	}
	e := slices.Min(append([]int{clock}, times...))
	for _, n := range m.out {
		for _, l := range n.links {
			m.entries += l.forget(e)
		}
	}
	pause(api.Moved) // Drop
	for _, n := range noted {
		if !slices.ContainsFunc(times, func(time int) bool { return time <= n.retired }) {
			m.free(n)
		}
	}
}

// forget: entries that tell of no time from e on are gone; how many were.
func (l *modelLink) forget(e int) int {
	newest := -1
	for _, entry := range l.entries {
		if entry.stamp <= e {
			newest = max(newest, entry.stamp)
		}
	}
	count := len(l.entries)
	l.entries = slices.DeleteFunc(l.entries, func(entry *modelEntry) bool { return entry.stamp != -1 && entry.stamp < newest })
	return count - len(l.entries)
}
