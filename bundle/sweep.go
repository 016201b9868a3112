package bundle

import "bundle/api"

// sweep is how far the sweep has come, and what it has noted.
type sweep struct {
	made    int   // how many steps it has made
	clock   int   // the clock at its beginning
	retired []int // the nodes that were retired at its beginning
	hasTime bool  // a slot said a time
	time    int   // the least of the times that slots said: no other one counts
}

// sweepStep makes the next step of the sweep, or waits (P10): Begin, one for each thread, Drop, Free.
func (s *Store) sweepStep() int {
	thread := s.sweep.made - 1
	switch {
	case s.sweep.made == 0:
		s.beginSweep()
	case s.hasThread(thread):
		if s.threads[thread].slot == slotComing {
			return api.Waited
		}
		s.sweep.lookAt(s.threads[thread])
	case thread == len(s.threads):
		s.dropEntries()
	default:
		s.freeNodes()
		s.sweep = sweep{}
		return api.Ended
	}
	s.sweep.made++
	return api.Moved
}

// beginSweep notes which nodes are retired, as times do not tell it: a node that is retired later may have the same time, and a thread that came behind the look at its slot may stand at it.
func (s *Store) beginSweep() {
	s.sweep.clock = s.clock
	s.sweep.retired = s.memory.RetiredNodes()
}

func (w *sweep) lookAt(t *worker) {
	if t.slot != slotTime {
		return
	}
	if !w.hasTime || t.work.time < w.time {
		w.time = t.work.time
	}
	w.hasTime = true
}

// dropEntries goes by the clock of the beginning: a thread that came behind the look at its slot may have that time, however far the clock is now.
func (s *Store) dropEntries() {
	time := s.sweep.clock
	if s.sweep.hasTime && s.sweep.time < time {
		time = s.sweep.time
	}
	s.memory.Drop(time)
}

// freeNodes spares a node of which the retired time is a thread's own: the thread may have read the clock while a link still led there.
func (s *Store) freeNodes() {
	for i := range s.sweep.retired {
		number := s.sweep.retired[i]
		if !s.sweep.hasTime || s.memory.Node(number).RetiredAt < s.sweep.time {
			s.memory.Free(number)
		}
	}
}
