package bundle

import (
	"bundle/api"
	"bundle/memory"
)

// Here stands how the place that a walk has found is looked at and changed: in a list (P8), and otherwise in a tree (P11).

// leadsFrom tells to which node the node's link for the key leads now.
func (s *Store) leadsFrom(number, key int) int {
	link := s.memory.LinkFor(number, key)
	return s.memory.LeadsTo(link)
}

// isPassed tells whether a walk for the key that comes to the node goes on from it.
func (s *Store) isPassed(number, key int) bool {
	node := s.memory.Node(number)
	if s.kind == api.Tree {
		return node.IsInner()
	}
	return node.Key < key
}

// takesOut: it is a Remove that has found its key.
func (s *Store) takesOut(t *worker) bool {
	return t.work.kind == api.Remove && s.meetsKey(t)
}

// locksWanted has a node ahead of those to which its links lead: as all threads take locks in this order, no two of them wait for one another.
func (s *Store) locksWanted(t *worker) []int {
	if !s.takesOut(t) {
		return []int{t.work.stand}
	}
	if s.kind == api.Tree {
		return []int{t.work.above, t.work.stand}
	}
	return []int{t.work.stand, t.work.ahead}
}

// isOutdated: others have changed the place since the walk found it.
func (s *Store) isOutdated(t *worker) bool {
	if !s.isAsFound(t.work.stand, t.work.ahead, t.work.key) {
		return true
	}
	if s.kind == api.List {
		return s.memory.Node(t.work.ahead).Dead
	}
	return s.takesOut(t) && !s.isAsFound(t.work.above, t.work.stand, t.work.key)
}

// isAsFound: the node is not dead, and its link for the key leads to the other one still.
func (s *Store) isAsFound(from, to, key int) bool {
	return !s.memory.Node(from).Dead && s.leadsFrom(from, key) == to
}

// needs tells how many nodes and how many entries an update needs.
func (s *Store) needs(kind int) (int, int) {
	switch {
	case kind == api.Remove:
		return 0, 1
	case s.kind == api.Tree:
		return 2, 3
	}
	return 1, 2
}

func (s *Store) prepareInsert(t *worker) {
	made := s.memory.Make(t.work.key, t.work.value)
	t.work.made = append(t.work.made, made)
	link := s.memory.LinkFor(t.work.stand, t.work.key)
	if s.kind == api.List {
		s.memory.AddLink(made, t.work.ahead)
		s.pend(t, link, made)
		return
	}
	inner := s.join(made, t.work.ahead)
	t.work.made = append(t.work.made, inner)
	s.pend(t, link, inner)
}

// join makes an inner node above two leaves.
func (s *Store) join(one, other int) int {
	lesser := one
	greater := other
	if s.memory.Node(one).Key > s.memory.Node(other).Key {
		lesser = other
		greater = one
	}
	key := s.memory.Node(greater).Key
	inner := s.memory.Make(key, 0)
	s.memory.AddLink(inner, lesser)
	s.memory.AddLink(inner, greater)
	return inner
}

// prepareRemove: in a tree the inner node goes with its leaf, and what its other link leads to comes into its place.
func (s *Store) prepareRemove(t *worker) {
	followed := s.memory.LinkFor(t.work.stand, t.work.key)
	if s.kind == api.List {
		behind := s.leadsFrom(t.work.ahead, t.work.key)
		s.pend(t, followed, behind)
		return
	}
	stays := s.memory.LeadsTo(followed.Other())
	link := s.memory.LinkFor(t.work.above, t.work.key)
	s.pend(t, link, stays)
}

// nodesTakenOut lists what a Remove kills, and retires later.
func (s *Store) nodesTakenOut(t *worker) []int {
	if s.kind == api.Tree {
		return []int{t.work.ahead, t.work.stand}
	}
	return []int{t.work.ahead}
}

// linksWithin lists the links of the node that a Scan of keys from lo to hi follows, in the order of the keys to which they lead.
func (s *Store) linksWithin(number, lo, hi int) []memory.Link {
	node := s.memory.Node(number)
	var links []memory.Link
	if s.kind == api.List {
		if node.Key <= hi {
			links = append(links, memory.Link{From: number, Side: 0})
		}
		return links
	}
	if node.IsInner() && lo < node.Key {
		links = append(links, memory.Link{From: number, Side: 0})
	}
	if node.IsInner() && hi >= node.Key {
		links = append(links, memory.Link{From: number, Side: 1})
	}
	return links
}
