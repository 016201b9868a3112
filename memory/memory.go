// Package memory: the nodes of a store, their links, and the entries by which the links remember.
package memory

import "bundle/api"

// The nodes that are always there and belong to no pool.
const (
	Anchor = 0
	End    = 1
)

// None is the number of no node and of no entry.
const None = -1

const nobody = -1

// Node is a node of a list, with its one link.
type Node struct {
	Key, Value int
	Next       int // the node to which its link leads now
	Dead       bool
	Retired    bool
	RetiredAt  int
	used       bool // out of the pool
	holder     int  // the thread that has its lock, or nobody
}

type entry struct {
	used    bool // out of the pool
	pending bool
	from    int // the node of which the link remembers
	to      int
	stamp   int
}

// Memory is all nodes and entries of a store, in the pools and out of them.
type Memory struct {
	nodes   []Node
	entries []entry
}

// New makes the anchor, the end, and the pools, with so many nodes and entries in all.
func New(nodes, entries int) *Memory {
	m := &Memory{}
	m.nodes = append(m.nodes, Node{Next: End, used: true, holder: nobody})
	m.nodes = append(m.nodes, Node{Key: api.MaxKey + 1, Next: None, used: true, holder: nobody})
	for i := 0; i < nodes; i++ {
		m.nodes = append(m.nodes, Node{})
	}
	for i := 0; i < entries; i++ {
		m.entries = append(m.entries, entry{})
	}
	m.Pend(Anchor, End)
	m.Stamp(Anchor, 0)
	return m
}

// Room tells how many nodes and how many entries are in the pools.
func (m *Memory) Room() (int, int) {
	nodes := 0
	for i := range m.nodes {
		if !m.nodes[i].used {
			nodes++
		}
	}
	entries := 0
	for i := range m.entries {
		if !m.entries[i].used {
			entries++
		}
	}
	return nodes, entries
}

// Node tells what the node with the number is now; of a number that is none, nothing.
func (m *Memory) Node(number int) Node {
	if !m.hasNode(number) {
		return Node{}
	}
	return m.nodes[number]
}

func (m *Memory) hasNode(number int) bool {
	return number >= 0 && number < len(m.nodes)
}

func (m *Memory) hasEntry(number int) bool {
	return number >= 0 && number < len(m.entries)
}
