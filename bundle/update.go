package bundle

import "bundle/api"

// stepOfUpdate makes a step of an Insert or a Remove, from Walk to Unlock (P8).
func (s *Store) stepOfUpdate(t *worker) int {
	switch t.work.next {
	case stepWalk:
		s.walk(t)
	case stepLock:
		how := s.lock(t)
		return how
	case stepCheck:
		s.check(t)
	case stepPrepare:
		s.prepare(t)
	case stepTake:
		s.take(t)
	case stepKill:
		s.memory.Kill(t.work.ahead)
		t.work.next = stepLink
	case stepLink:
		s.memory.Lead(t.work.stand)
		t.work.next = stepStamp
	case stepStamp:
		s.memory.Stamp(t.work.stand, t.work.answer.Stamp)
		t.work.next = stepUnlock
	case stepUnlock:
		s.unlock(t)
	}
	return api.Moved
}

func (s *Store) walk(t *worker) {
	ahead := s.memory.Node(t.work.stand).Next
	if s.memory.Node(ahead).Key < t.work.key {
		t.work.stand = ahead
		return
	}
	t.work.ahead = ahead
	t.work.next = stepLock
}

// lock takes the lock of the node that comes first first: as all threads do so, no two of them wait for one another.
func (s *Store) lock(t *worker) int {
	wanted := t.work.stand
	if t.work.locks == 1 {
		wanted = t.work.ahead
	}
	if !s.memory.Lock(wanted, t.number) {
		return api.Waited
	}
	t.work.locks++
	if t.work.locks == s.locksWanted(t) {
		t.work.next = stepCheck
	}
	return api.Moved
}

func (s *Store) locksWanted(t *worker) int {
	if t.work.kind == api.Remove && s.meetsKey(t) {
		return 2
	}
	return 1
}

func (s *Store) meetsKey(t *worker) bool {
	return s.memory.Node(t.work.ahead).Key == t.work.key
}

func (s *Store) giveBackLocks(t *worker) {
	s.memory.Unlock(t.number)
	t.work.locks = 0
}

func (s *Store) check(t *worker) {
	if s.isOutdated(t) {
		s.giveBackLocks(t)
		t.beginWalk()
		return
	}
	if s.meetsKey(t) == (t.work.kind == api.Insert) {
		t.settle(api.Answer{Stamp: s.clock})
		return
	}
	t.work.next = stepPrepare
}

// isOutdated: others have changed the place since the walk found it.
func (s *Store) isOutdated(t *worker) bool {
	stand := s.memory.Node(t.work.stand)
	ahead := s.memory.Node(t.work.ahead)
	return stand.Dead || ahead.Dead || stand.Next != t.work.ahead
}

func (s *Store) prepare(t *worker) {
	nodes, entries := s.memory.Room()
	if nodes < nodesNeeded(t.work.kind) || entries < entriesNeeded(t.work.kind) {
		t.settle(api.Answer{Err: api.ErrFull})
		return
	}
	if t.work.kind == api.Insert {
		t.work.made = s.memory.Make(t.work.key, t.work.value, t.work.ahead)
		s.memory.Pend(t.work.stand, t.work.made)
	} else {
		behind := s.memory.Node(t.work.ahead).Next
		s.memory.Pend(t.work.stand, behind)
	}
	t.work.next = stepTake
}

func nodesNeeded(kind int) int {
	if kind == api.Insert {
		return 1
	}
	return 0
}

func entriesNeeded(kind int) int {
	if kind == api.Insert {
		return 2
	}
	return 1
}

func (s *Store) take(t *worker) {
	if s.clock >= s.limit {
		s.undo(t)
		t.settle(api.Answer{Err: api.ErrClock})
		return
	}
	s.clock++
	t.work.answer = api.Answer{Did: true, Stamp: s.clock}
	if t.work.kind == api.Remove {
		t.work.answer.Value = s.memory.Node(t.work.ahead).Value
		t.work.next = stepKill
		return
	}
	s.memory.Stamp(t.work.made, s.clock)
	t.work.next = stepLink
}

// undo lays back what prepare took.
func (s *Store) undo(t *worker) {
	s.memory.Unpend(t.work.stand)
	if t.work.kind == api.Insert {
		s.memory.Free(t.work.made)
	}
}

// unlock retires what was killed with the clock as it is now, not with the operation's stamp: others may have walked there till now.
func (s *Store) unlock(t *worker) {
	s.giveBackLocks(t)
	if t.work.kind == api.Remove && t.work.answer.Did {
		s.memory.Retire(t.work.ahead, s.clock)
	}
	t.work.next = stepLeave
}
