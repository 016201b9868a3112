package bundle_test

import (
	"iter"
	"slices"

	"bundle/api"
)

// A second telling of P8 to P10, to hold the program against: an operation, and a sweep, is plain code here that pauses behind each step, and nodes and entries are Go's own.

type modelNode struct {
	key, value int
	next       *modelNode
	entries    []*modelEntry
	holder     int
	dead       bool
	retired    int // its time; -1: it is not retired
}

type modelEntry struct {
	to    *modelNode
	stamp int // -1: pending
}

type model struct {
	nodes, entries int // in the pools
	clock, limit   int
	anchor         *modelNode
	out            []*modelNode // the anchor, and all nodes that are out of the pool
	threads        []modelThread
	sweepStep      func() (int, bool) // nil: no sweep has begun
}

// What a slot says, if it is not a time.
const (
	isIdle   = -1
	isComing = -2
)

type modelThread struct {
	busy, hasEnded bool
	slot           int
	step           func() (int, bool)
	answer         api.Answer
}

func newModel(c api.Config) *model {
	end := &modelNode{key: api.MaxKey + 1, holder: -1, retired: -1}
	anchor := &modelNode{key: -1, next: end, holder: -1, retired: -1, entries: []*modelEntry{{to: end}}}
	m := &model{nodes: c.Nodes, entries: c.Entries - 1, limit: c.Limit, anchor: anchor, out: []*modelNode{anchor}, threads: make([]modelThread, c.Threads)}
	for i := range m.threads {
		m.threads[i].slot = isIdle
	}
	return m
}

func (m *model) begin(thread int, op api.Op) {
	th := &m.threads[thread]
	th.busy = true
	th.step, _ = iter.Pull(func(yield func(int) bool) {
		pause := func(how int) { yield(how) }
		answer := m.run(thread, op, pause)
		th.slot, th.busy, th.hasEnded, th.answer = isIdle, false, true, answer
		pause(api.Ended) // Leave
	})
}

func (m *model) step(thread int) int {
	how, _ := m.threads[thread].step()
	return how
}

func (m *model) run(thread int, op api.Op, pause func(int)) api.Answer {
	m.threads[thread].slot = isComing
	pause(api.Moved) // Come
	time := m.clock
	pause(api.Moved) // Read
	m.threads[thread].slot = time
	pause(api.Moved) // Announce
	switch op.Kind {
	case api.Lookup:
		return m.lookup(op.Key, time, pause)
	case api.Scan:
		return m.scan(op.Spans, time, pause)
	}
	return m.update(thread, op, pause)
}

func (m *model) update(thread int, op api.Op, pause func(int)) api.Answer {
	for {
		x, c := m.walk(op.Key, pause)
		locked := []*modelNode{x}
		if op.Kind == api.Remove && c.key == op.Key {
			locked = append(locked, c)
		}
		for _, n := range locked {
			for n.holder != -1 {
				pause(api.Waited)
			}
			n.holder = thread
			pause(api.Moved)
		}
		if !x.dead && !c.dead && x.next == c {
			answer := m.change(op, x, c, pause)
			release(locked)
			if op.Kind == api.Remove && answer.Did {
				c.retired = m.clock
			}
			pause(api.Moved) // Unlock
			return answer
		}
		release(locked)
		pause(api.Moved) // Check: a new walk
	}
}

func release(locked []*modelNode) {
	for _, n := range locked {
		n.holder = -1
	}
}

func (m *model) walk(key int, pause func(int)) (*modelNode, *modelNode) {
	x := m.anchor
	for {
		c := x.next
		pause(api.Moved)
		if c.key >= key {
			return x, c
		}
		x = c
	}
}

// change: from Check, which found the place as the walk had, to the step ahead of Unlock.
func (m *model) change(op api.Op, x, c *modelNode, pause func(int)) api.Answer {
	isInsert := op.Kind == api.Insert
	if isInsert == (c.key == op.Key) {
		answer := api.Answer{Stamp: m.clock}
		pause(api.Moved) // Check
		return answer
	}
	pause(api.Moved) // Check
	nodes, entries := 0, 1
	if isInsert {
		nodes, entries = 1, 2
	}
	if m.nodes < nodes || m.entries < entries {
		pause(api.Moved) // Prepare
		return api.Answer{Err: api.ErrFull}
	}
	m.nodes -= nodes
	m.entries -= entries
	to := c.next
	if isInsert {
		to = &modelNode{key: op.Key, value: op.Value, next: c, holder: -1, retired: -1, entries: []*modelEntry{{to: c, stamp: -1}}}
		m.out = append(m.out, to)
	}
	pending := &modelEntry{to: to, stamp: -1}
	x.entries = append(x.entries, pending)
	pause(api.Moved) // Prepare
	if m.clock == m.limit {
		if isInsert {
			m.free(to)
		}
		m.entries++
		x.entries = x.entries[:len(x.entries)-1]
		pause(api.Moved) // Take
		return api.Answer{Err: api.ErrClock}
	}
	m.clock++
	answer := api.Answer{Did: true, Stamp: m.clock}
	if isInsert {
		to.entries[0].stamp = m.clock
		pause(api.Moved) // Take
	} else {
		answer.Value = c.value
		pause(api.Moved) // Take
		c.dead = true
		pause(api.Moved) // Kill
	}
	x.next = to
	pause(api.Moved) // Link
	pending.stamp = answer.Stamp
	pause(api.Moved) // Stamp
	return answer
}

func (m *model) lookup(key, time int, pause func(int)) api.Answer {
	_, c := m.walkBack(key-1, time, pause)
	if c.key != key {
		return api.Answer{Stamp: time}
	}
	return api.Answer{Did: true, Value: c.value, Stamp: time}
}

func (m *model) scan(spans []api.Span, time int, pause func(int)) api.Answer {
	far := 0
	for _, span := range spans {
		far = max(far, span.Hi)
	}
	nodes, _ := m.walkBack(far, time, pause)
	lists := make([][]api.Pair, len(spans))
	room := api.MaxPairs
	for _, n := range nodes {
		for i, span := range spans {
			if span.Lo > n.key || span.Hi < n.key {
				continue
			}
			if room == 0 {
				return api.Answer{Err: api.ErrLarge}
			}
			room--
			lists[i] = append(lists[i], api.Pair{Key: n.key, Value: n.value})
		}
	}
	return api.Answer{Stamp: time, Spans: lists}
}

// walkBack: the walk of a read, past all keys up to far: the nodes that it passes, and the one at which it is over.
func (m *model) walkBack(far, time int, pause func(int)) ([]*modelNode, *modelNode) {
	var passed []*modelNode
	for x := m.anchor; ; {
		for x.pends() {
			pause(api.Waited)
		}
		c := x.ledTo(time)
		pause(api.Moved)
		if c.key > far {
			return passed, c
		}
		passed = append(passed, c)
		x = c
	}
}

func (n *modelNode) pends() bool {
	for _, e := range n.entries {
		if e.stamp == -1 {
			return true
		}
	}
	return false
}

// ledTo: entries come to a link in the order of their stamps, as whoever takes a stamp has the lock of its node.
func (n *modelNode) ledTo(time int) *modelNode {
	for i := len(n.entries) - 1; i > 0; i-- {
		if n.entries[i].stamp <= time {
			return n.entries[i].to
		}
	}
	return n.entries[0].to
}

// free: a node goes back into the pool, with its entries.
func (m *model) free(n *modelNode) {
	m.nodes++
	m.entries += len(n.entries)
	m.out = slices.DeleteFunc(m.out, func(other *modelNode) bool { return other == n })
}

func (m *model) sweep() int {
	if m.sweepStep == nil {
		m.sweepStep, _ = iter.Pull(func(yield func(int) bool) {
			m.runSweep(func(how int) { yield(how) })
			m.sweepStep = nil
			yield(api.Ended) // Free
		})
	}
	how, _ := m.sweepStep()
	return how
}

func (m *model) runSweep(pause func(int)) {
	clock := m.clock
	var noted []*modelNode
	for _, n := range m.out {
		if n.retired != -1 {
			noted = append(noted, n)
		}
	}
	pause(api.Moved) // Begin
	var times []int
	for i := range m.threads {
		for m.threads[i].slot == isComing {
			pause(api.Waited)
		}
		if m.threads[i].slot != isIdle {
			times = append(times, m.threads[i].slot)
		}
		pause(api.Moved)
	}
	e := slices.Min(append([]int{clock}, times...))
	for _, n := range m.out {
		m.entries += n.forget(e)
	}
	pause(api.Moved) // Drop
	for _, n := range noted {
		if !slices.ContainsFunc(times, func(time int) bool { return time <= n.retired }) {
			m.free(n)
		}
	}
}

// forget: entries that tell of no time from e on are gone; how many were.
func (n *modelNode) forget(e int) int {
	newest := -1
	for _, entry := range n.entries {
		if entry.stamp <= e {
			newest = max(newest, entry.stamp)
		}
	}
	count := len(n.entries)
	n.entries = slices.DeleteFunc(n.entries, func(entry *modelEntry) bool { return entry.stamp != -1 && entry.stamp < newest })
	return count - len(n.entries)
}
