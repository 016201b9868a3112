// Package memory: the nodes of a store, their links, and the entries by which the links remember.
package memory

import "bundle/api"

// The nodes that are always there and belong to no pool.
const (
	Anchor = 0
	End    = 1
)

// None is the number of no node and of no entry.
const None = -1

const nobody = -1

const mostLinks = 2

// Node is a node: the end and a leaf of a tree have no link, the anchor and a node of a list one, an inner node of a tree two.
type Node struct {
	Key, Value int
	Dead       bool
	Retired    bool
	RetiredAt  int
	used       bool           // out of the pool
	holder     int            // the thread that has its lock, or nobody
	links      int            // how many links it has
	leads      [mostLinks]int // of each link, the node to which it leads now
}

// Link names a link: link 0 or link 1 of the node From.
type Link struct {
	From, Side int
}

type entry struct {
	used    bool // out of the pool
	pending bool
	link    Link // the link that remembers by it
	to      int
	stamp   int
}

// Memory is all nodes and entries of a store, in the pools and out of them.
type Memory struct {
	nodes   []Node
	entries []entry
}

// New makes the anchor, the end, and the pools, with so many nodes and entries in all.
func New(nodes, entries int) *Memory {
	m := &Memory{}
	m.nodes = append(m.nodes, Node{used: true, holder: nobody})
	m.nodes = append(m.nodes, Node{Key: api.MaxKey + 1, used: true, holder: nobody})
	for i := 0; i < nodes; i++ {
		m.nodes = append(m.nodes, Node{})
	}
	for i := 0; i < entries; i++ {
		m.entries = append(m.entries, entry{})
	}
	m.AddLink(Anchor, End)
	m.StampNew(Anchor, 0)
	return m
}

// Room tells how many nodes and how many entries are in the pools.
func (m *Memory) Room() (int, int) {
	nodes := 0
	for i := range m.nodes {
		if !m.nodes[i].used {
			nodes++
		}
	}
	entries := 0
	for i := range m.entries {
		if !m.entries[i].used {
			entries++
		}
	}
	return nodes, entries
}

// Node tells what the node with the number is now; of a number that is none, nothing.
func (m *Memory) Node(number int) Node {
	if !m.hasNode(number) {
		return Node{}
	}
	return m.nodes[number]
}

// IsInner tells whether it is an inner node of a tree.
func (n Node) IsInner() bool {
	return n.links == mostLinks
}

func (m *Memory) hasNode(number int) bool {
	return number >= 0 && number < len(m.nodes)
}

func (m *Memory) hasEntry(number int) bool {
	return number >= 0 && number < len(m.entries)
}
