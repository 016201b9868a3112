package memory

// AddLink gives the node one more link, which leads to the node to now and has one entry, a pending one. Nothing is done if the node has all links that one can have, or if the pool has no entry.
func (m *Memory) AddLink(number, to int) {
	if !m.hasNode(number) || m.freeEntry() == None {
		return
	}
	side := m.nodes[number].links
	if side < 0 || side >= mostLinks {
		return
	}
	m.nodes[number].links++
	m.nodes[number].leads[side] = to
	m.Pend(Link{From: number, Side: side}, to)
}

// LinkFor tells which of the node's links is the link for the key. A node that has one link has it for every key.
func (m *Memory) LinkFor(number, key int) Link {
	node := m.Node(number)
	if node.IsInner() && key >= node.Key {
		return Link{From: number, Side: 1}
	}
	return Link{From: number, Side: 0}
}

// Other tells the other link of an inner node.
func (l Link) Other() Link {
	return Link{From: l.From, Side: 1 - l.Side}
}

// LeadsTo tells to which node the link leads now; None if there is no such link.
func (m *Memory) LeadsTo(link Link) int {
	if !m.hasLink(link) {
		return None
	}
	return m.nodes[link.From].leads[link.Side]
}

// Lead makes the link lead now to the node of its pending entry.
func (m *Memory) Lead(link Link) {
	pending := m.pending(link)
	if !m.hasEntry(pending) || !m.hasLink(link) {
		return
	}
	m.nodes[link.From].leads[link.Side] = m.entries[pending].to
}

func (m *Memory) hasLink(link Link) bool {
	if !m.hasNode(link.From) || link.Side < 0 || link.Side >= mostLinks {
		return false
	}
	return link.Side < m.nodes[link.From].links
}
