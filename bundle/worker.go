package bundle

import (
	"bundle/api"
	"bundle/memory"
)

// What a slot says. A slot that says a time says the time of the thread's work.
const (
	slotIdle   = 0
	slotComing = 1
	slotTime   = 2
)

// The steps of operations, with their numbers in P8; a read has some of them.
const (
	stepCome     = 1
	stepRead     = 2
	stepAnnounce = 3
	stepWalk     = 4
	stepLock     = 5
	stepCheck    = 6
	stepPrepare  = 7
	stepTake     = 8
	stepKill     = 9
	stepLink     = 10
	stepStamp    = 11
	stepUnlock   = 12
	stepLeave    = 13
)

// worker is a thread with its slot, and with what it has under way and has ended.
type worker struct {
	number   int
	slot     int
	busy     bool // it has an operation under way
	work     work
	hasEnded bool // it has ended an operation
	last     api.Answer
}

// work is an operation under way, and how far it has come.
type work struct {
	kind, key, value int
	spans            []api.Span
	next             int // the step that is next
	time             int
	stand            int           // where the walk stands: x in P8
	ahead            int           // the node to which the link of stand led: c in P8
	above            int           // where the walk stood before: g in P11; a list does not ask for it
	locks            int           // how many locks the thread has
	made             []int         // the nodes that Insert has made
	turning          memory.Link   // the link that has got a pending entry
	links            []memory.Link // those that Scan has to follow, the next one first
	noted            []api.Pair    // what Scan has come by
	answer           api.Answer
}

// newWork takes of the operation only the fields that its kind has, and the spans as a copy: their list is its owner's.
func newWork(op api.Op) work {
	w := work{kind: op.Kind, next: stepCome}
	switch op.Kind {
	case api.Insert:
		w.key = op.Key
		w.value = op.Value
	case api.Remove, api.Lookup:
		w.key = op.Key
	case api.Scan:
		for i := range op.Spans {
			w.spans = append(w.spans, op.Spans[i])
		}
		w.links = append(w.links, memory.Link{From: memory.Anchor, Side: 0})
	}
	return w
}

// beginWalk makes a walk from the anchor the next thing.
func (t *worker) beginWalk() {
	t.work.stand = memory.Anchor
	t.work.next = stepWalk
}

// settle fixes what the operation will answer, with nothing left to do but Unlock and Leave.
func (t *worker) settle(answer api.Answer) {
	t.work.answer = answer
	t.work.next = stepUnlock
}

// conclude fixes what a read will answer: it has no locks to give back, so that nothing is left to do but Leave.
func (t *worker) conclude(answer api.Answer) {
	t.work.answer = answer
	t.work.next = stepLeave
}

// leave ends the operation: only now its answer is the one that the thread ended last.
func (t *worker) leave() {
	t.slot = slotIdle
	t.last = t.work.answer
	t.hasEnded = true
	t.busy = false
	t.work = work{}
}
