package bundle

import (
	"bundle/api"
	"bundle/memory"
)

// stepOfRead makes a step of the walk of a Lookup or a Scan (P9, P11). A pending entry may yet get a stamp that the thread's time includes: so the walk waits for it.
func (s *Store) stepOfRead(t *worker) int {
	link := s.linkToFollow(t)
	if s.memory.HasPending(link) {
		return api.Waited
	}
	ahead := s.memory.LedTo(link, t.work.time)
	if t.work.kind == api.Lookup {
		s.lookUp(t, ahead)
	} else {
		s.scan(t, ahead)
	}
	return api.Moved
}

// linkToFollow: a Lookup has no list of links, as one leads to the next.
func (s *Store) linkToFollow(t *worker) memory.Link {
	if len(t.work.links) > 0 {
		return t.work.links[0]
	}
	return s.memory.LinkFor(t.work.stand, t.work.key)
}

func (s *Store) lookUp(t *worker, ahead int) {
	if s.isPassed(ahead, t.work.key) {
		t.work.stand = ahead
		return
	}
	node := s.memory.Node(ahead)
	answer := api.Answer{Stamp: t.work.time}
	if node.Key == t.work.key {
		answer.Did = true
		answer.Value = node.Value
	}
	t.conclude(answer)
}

func (s *Store) scan(t *worker, ahead int) {
	lo := leastLo(t.work.spans)
	hi := greatestHi(t.work.spans)
	node := s.memory.Node(ahead)
	if !node.IsInner() && isWithin(node.Key, lo, hi) {
		t.work.noted = append(t.work.noted, api.Pair{Key: node.Key, Value: node.Value})
	}
	links := s.linksWithin(ahead, lo, hi)
	for i := 1; i < len(t.work.links); i++ {
		links = append(links, t.work.links[i])
	}
	t.work.links = links
	if len(links) == 0 {
		answer := answerOfScan(t.work.spans, t.work.noted, t.work.time)
		t.conclude(answer)
	}
}

func leastLo(spans []api.Span) int {
	least := api.MaxKey
	for i := range spans {
		if spans[i].Lo < least {
			least = spans[i].Lo
		}
	}
	return least
}

func greatestHi(spans []api.Span) int {
	greatest := 0
	for i := range spans {
		if spans[i].Hi > greatest {
			greatest = spans[i].Hi
		}
	}
	return greatest
}

func answerOfScan(spans []api.Span, noted []api.Pair, stamp int) api.Answer {
	answer := api.Answer{Stamp: stamp}
	count := 0
	for i := range spans {
		list := pairsIn(spans[i], noted)
		count += len(list)
		answer.Spans = append(answer.Spans, list)
	}
	if count > api.MaxPairs {
		return api.Answer{Err: api.ErrLarge}
	}
	return answer
}

// pairsIn makes a list of its own for the span: spans may share pairs, but their lists no room.
func pairsIn(span api.Span, noted []api.Pair) []api.Pair {
	var list []api.Pair
	for i := range noted {
		if isWithin(noted[i].Key, span.Lo, span.Hi) {
			list = append(list, noted[i])
		}
	}
	return list
}
