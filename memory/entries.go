package memory

// Pend takes an entry out of the pool: the link gets it as its pending one, with the node to. Nothing is done if the pool has none, or if there is no such link.
func (m *Memory) Pend(link Link, to int) {
	free := m.freeEntry()
	if !m.hasEntry(free) || !m.hasLink(link) {
		return
	}
	m.entries[free] = entry{used: true, pending: true, link: link, to: to}
}

// Unpend lays the link's pending entry back into the pool.
func (m *Memory) Unpend(link Link) {
	pending := m.pending(link)
	if !m.hasEntry(pending) {
		return
	}
	m.entries[pending] = entry{}
}

// Stamp gives the link's pending entry a stamp: it is pending no more.
func (m *Memory) Stamp(link Link, stamp int) {
	pending := m.pending(link)
	if !m.hasEntry(pending) {
		return
	}
	m.entries[pending].pending = false
	m.entries[pending].stamp = stamp
}

// StampNew gives the pending entries of all links of a new node a stamp.
func (m *Memory) StampNew(number, stamp int) {
	for side := 0; side < mostLinks; side++ {
		m.Stamp(Link{From: number, Side: side}, stamp)
	}
}

// HasPending tells whether the link has a pending entry.
func (m *Memory) HasPending(link Link) bool {
	return m.pending(link) != None
}

// LedTo tells to which node the link led at the time. Of a link that led nowhere then it tells the end, so that every walk comes to one.
func (m *Memory) LedTo(link Link, time int) int {
	to := End
	greatest := -1 // below every stamp
	for i := range m.entries {
		e := m.entries[i]
		if e.isStamped(link) && e.stamp <= time && e.stamp > greatest {
			greatest = e.stamp
			to = e.to
		}
	}
	return to
}

// Drop lays back into the pool the entries that tell of no time from the given one on: their links have entries with greater stamps that are at most that time.
func (m *Memory) Drop(time int) {
	for i := range m.entries {
		e := m.entries[i]
		if e.isStamped(e.link) && m.hasStamp(e.link, e.stamp, time) {
			m.entries[i] = entry{}
		}
	}
}

// hasStamp tells whether an entry of the link has a stamp that is greater than above and at most the time.
func (m *Memory) hasStamp(link Link, above, time int) bool {
	for i := range m.entries {
		e := m.entries[i]
		if e.isStamped(link) && e.stamp > above && e.stamp <= time {
			return true
		}
	}
	return false
}

// isStamped: it is an entry of the link, and not a pending one.
func (e entry) isStamped(link Link) bool {
	return e.used && !e.pending && e.link == link
}

func (m *Memory) freeEntry() int {
	for i := range m.entries {
		if !m.entries[i].used {
			return i
		}
	}
	return None
}

// pending finds the link's pending entry. There is one at the most: who lays one there has the lock of the link's node, or has just made the node.
func (m *Memory) pending(link Link) int {
	for i := range m.entries {
		if m.entries[i].pending && m.entries[i].link == link {
			return i
		}
	}
	return None
}
