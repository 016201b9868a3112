package memory

// Pend takes an entry out of the pool: the node's link gets it as its pending one, with the node to. Nothing is done if the pool has none.
func (m *Memory) Pend(number, to int) {
	free := m.freeEntry()
	if !m.hasEntry(free) {
		return
	}
	m.entries[free] = entry{used: true, pending: true, from: number, to: to}
}

// Unpend lays the pending entry of the node's link back into the pool.
func (m *Memory) Unpend(number int) {
	pending := m.pending(number)
	if !m.hasEntry(pending) {
		return
	}
	m.entries[pending] = entry{}
}

// Lead makes the node's link lead now to the node of its pending entry.
func (m *Memory) Lead(number int) {
	pending := m.pending(number)
	if !m.hasEntry(pending) || !m.hasNode(number) {
		return
	}
	m.nodes[number].Next = m.entries[pending].to
}

// Stamp gives the pending entry of the node's link a stamp: it is pending no more.
func (m *Memory) Stamp(number, stamp int) {
	pending := m.pending(number)
	if !m.hasEntry(pending) {
		return
	}
	m.entries[pending].pending = false
	m.entries[pending].stamp = stamp
}

// HasPending tells whether the node's link has a pending entry.
func (m *Memory) HasPending(number int) bool {
	return m.pending(number) != None
}

// LedTo tells to which node the node's link led at the time. Of a link that led nowhere then it tells the end, so that every walk comes to one.
func (m *Memory) LedTo(number, time int) int {
	to := End
	greatest := -1 // below every stamp
	for i := range m.entries {
		e := m.entries[i]
		if e.isStamped(number) && e.stamp <= time && e.stamp > greatest {
			greatest = e.stamp
			to = e.to
		}
	}
	return to
}

// Drop lays back into the pool the entries that tell of no time from the given one on: their links have entries with greater stamps that are at most that time.
func (m *Memory) Drop(time int) {
	for i := range m.entries {
		e := m.entries[i]
		if e.isStamped(e.from) && m.hasStamp(e.from, e.stamp, time) {
			m.entries[i] = entry{}
		}
	}
}

// hasStamp tells whether an entry of the node's link has a stamp that is greater than above and at most the time.
func (m *Memory) hasStamp(number, above, time int) bool {
	for i := range m.entries {
		e := m.entries[i]
		if e.isStamped(number) && e.stamp > above && e.stamp <= time {
			return true
		}
	}
	return false
}

// isStamped: it is an entry of the node's link, and not a pending one.
func (e entry) isStamped(number int) bool {
	return e.used && !e.pending && e.from == number
}

func (m *Memory) freeEntry() int {
	for i := range m.entries {
		if !m.entries[i].used {
			return i
		}
	}
	return None
}

// pending finds the pending entry of the node's link. There is one at the most: who lays one there has the node's lock, or has just made the node.
func (m *Memory) pending(number int) int {
	for i := range m.entries {
		if m.entries[i].pending && m.entries[i].from == number {
			return i
		}
	}
	return None
}
