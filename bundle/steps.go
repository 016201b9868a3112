package bundle

import "bundle/api"

// makeStep makes the next step of the thread's operation, or waits. The first three and the last are the same for all.
func (s *Store) makeStep(t *worker) int {
	switch t.work.next {
	case stepCome:
		t.slot = slotComing
		t.work.next = stepRead
		return api.Moved
	case stepRead:
		t.work.time = s.clock
		t.work.next = stepAnnounce
		return api.Moved
	case stepAnnounce:
		t.slot = slotTime
		t.beginWalk()
		return api.Moved
	case stepLeave:
		t.leave()
		return api.Ended
	}
	if isRead(t.work.kind) {
		return s.stepOfRead(t)
	}
	return s.stepOfUpdate(t)
}

func isRead(kind int) bool {
	return kind == api.Lookup || kind == api.Scan
}
