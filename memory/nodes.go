package memory

// Make takes a node without a link out of the pool. It answers None if the pool has none.
func (m *Memory) Make(key, value int) int {
	number := m.freeNode()
	if !m.hasNode(number) {
		return None
	}
	m.nodes[number] = Node{Key: key, Value: value, used: true, holder: nobody}
	return number
}

func (m *Memory) freeNode() int {
	for i := range m.nodes {
		if !m.nodes[i].used {
			return i
		}
	}
	return None
}

// Free lays a node back into the pool, and all entries of its links.
func (m *Memory) Free(number int) {
	if !m.hasNode(number) || number == Anchor || number == End {
		return
	}
	for i := range m.entries {
		if m.entries[i].used && m.entries[i].link.From == number {
			m.entries[i] = entry{}
		}
	}
	m.nodes[number] = Node{}
}

// Lock gives the node's lock to the thread; it answers false if another one has it.
func (m *Memory) Lock(number, thread int) bool {
	if !m.hasNode(number) {
		return false
	}
	holder := m.nodes[number].holder
	if holder != nobody && holder != thread {
		return false
	}
	m.nodes[number].holder = thread
	return true
}

// Unlock gives back all locks that the thread has.
func (m *Memory) Unlock(thread int) {
	for i := range m.nodes {
		if m.nodes[i].used && m.nodes[i].holder == thread {
			m.nodes[i].holder = nobody
		}
	}
}

// Kill makes the node dead.
func (m *Memory) Kill(number int) {
	if m.hasNode(number) {
		m.nodes[number].Dead = true
	}
}

// Retire makes the node retired, with a time.
func (m *Memory) Retire(number, time int) {
	if m.hasNode(number) {
		m.nodes[number].Retired = true
		m.nodes[number].RetiredAt = time
	}
}

// RetiredNodes tells the numbers of the nodes that are retired.
func (m *Memory) RetiredNodes() []int {
	var numbers []int
	for i := range m.nodes {
		if m.nodes[i].Retired {
			numbers = append(numbers, i)
		}
	}
	return numbers
}
