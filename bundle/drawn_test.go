package bundle_test

import (
	"math/rand"
	"sort"
	"testing"

	"bundle/api"
	"bundle/bundle"
)

// record: an operation that has ended, with the moments at which it began and ended.
type record struct {
	op         api.Op
	answer     api.Answer
	began, end int
}

func (r record) took() bool { return r.answer.Did }

// play: a store and its model, worked side by side.
type play struct {
	t       *testing.T
	config  api.Config
	store   *bundle.Store
	model   *model
	now     []record // of each thread, what it has under way
	ended   []record
	moment  int
	waiting int // how many steps waited
}

func newPlay(t *testing.T, c api.Config) *play {
	return &play{t: t, config: c, store: makeStore(t, c), model: newModel(c), now: make([]record, c.Threads)}
}

func (p *play) begin(thread int, op api.Op) {
	p.t.Helper()
	begin(p.t, p.store, thread, op)
	p.model.begin(thread, op)
	p.moment++
	p.now[thread] = record{op: op, began: p.moment}
}

// step: the same answer from both, and the same to be seen behind it.
func (p *play) step(thread int) int {
	p.t.Helper()
	want := p.model.step(thread)
	step(p.t, p.store, thread, want)
	shows(p.t, p.store, p.model.nodes, p.model.entries, p.model.clock)
	p.moment++
	if want == api.Waited {
		p.waiting++
	}
	if want == api.Ended {
		r := p.now[thread]
		r.end = p.moment
		r.answer = p.model.threads[thread].answer
		p.ended = append(p.ended, r)
	}
	for i, th := range p.model.threads {
		if th.hasEnded {
			answers(p.t, p.store, i, th.answer)
		}
	}
	return want
}

// finish: the threads step in turn till all operations have ended (P13).
func (p *play) finish() {
	p.t.Helper()
	most := p.config.Threads * (p.config.Threads + 2) * (p.config.Nodes + 16)
	for turn := 0; ; turn++ {
		busy, waited := 0, 0
		for thread := range p.model.threads {
			if !p.model.threads[thread].busy {
				continue
			}
			busy++
			if p.step(thread) == api.Waited {
				waited++
			}
		}
		if busy == 0 {
			return
		}
		if waited == busy {
			p.t.Fatal("a turn goes by in which each waits")
		}
		if turn == most {
			p.t.Fatalf("operations go on behind %d turns", most)
		}
	}
}

// checkOrder: in the order of their stamps the operations answer what plain pairs would (P12).
func (p *play) checkOrder() {
	p.t.Helper()
	var done []record
	for _, r := range p.ended {
		if r.answer.Err == api.OK {
			done = append(done, r)
		}
	}
	sort.SliceStable(done, func(i, j int) bool {
		a, b := done[i], done[j]
		if a.answer.Stamp != b.answer.Stamp {
			return a.answer.Stamp < b.answer.Stamp
		}
		return a.took() && !b.took()
	})
	pairs := map[int]int{}
	clock := 0
	for i, r := range done {
		value, isThere := pairs[r.op.Key]
		want := api.Answer{Did: isThere != (r.op.Kind == api.Insert)}
		if want.Did {
			clock++
		}
		want.Stamp = clock
		if r.op.Kind == api.Remove {
			want.Value = value
			delete(pairs, r.op.Key)
		} else if want.Did {
			pairs[r.op.Key] = r.op.Value
		}
		if !sameAnswer(r.answer, want) {
			p.t.Fatalf("P12: %+v, want %+v", r, want)
		}
		for _, later := range done[i+1:] {
			if later.end < r.began {
				p.t.Fatalf("P12: %+v had ended when %+v began, and stands behind it", later, r)
			}
		}
	}
	if clock != p.store.Clock() {
		p.t.Fatalf("%d stamps were taken, Clock is %d", clock, p.store.Clock())
	}
}

// checkRoom: without a sweep nothing comes back but what was taken for nothing.
func (p *play) checkRoom() {
	p.t.Helper()
	nodes, entries := p.config.Nodes, p.config.Entries-1
	for _, r := range p.ended {
		if r.took() && r.op.Kind == api.Insert {
			nodes--
			entries -= 2
		} else if r.took() {
			entries--
		}
	}
	shows(p.t, p.store, nodes, entries, p.store.Clock())
}

func drawConfig(r *rand.Rand) api.Config {
	c := api.Config{Kind: api.List, Threads: 1 + r.Intn(api.MaxThreads), Nodes: r.Intn(api.MaxNodes + 1), Entries: 1 + r.Intn(api.MaxEntries), Limit: api.MaxLimit}
	if r.Intn(2) == 0 {
		c.Nodes, c.Entries = api.MaxNodes, api.MaxEntries
	}
	if r.Intn(3) == 0 {
		c.Limit = r.Intn(20)
	}
	return c
}

func drawOp(r *rand.Rand, keys int) api.Op {
	key := r.Intn(keys)
	if key == keys-1 {
		key = api.MaxKey
	}
	return api.Op{Kind: api.Insert + r.Intn(2), Key: key, Value: r.Int() - r.Int()}
}

func TestDrawnSchedules(t *testing.T) { // P5, P6, P7, P8, P12, P13
	r := rand.New(rand.NewSource(1))
	errors := map[api.Errno]int{}
	waiting := 0
	for range 1500 {
		p := newPlay(t, drawConfig(r))
		keys := 1 + r.Intn(8)
		last := 0
		for range 20 + r.Intn(300) {
			thread := r.Intn(p.config.Threads)
			if r.Intn(3) == 0 {
				thread = last // some go on for a while
			}
			last = thread
			if p.model.threads[thread].busy {
				p.step(thread)
			} else {
				p.begin(thread, drawOp(r, keys))
			}
		}
		p.finish()
		p.checkOrder()
		p.checkRoom()
		waiting += p.waiting
		for _, e := range p.ended {
			errors[e.answer.Err]++
		}
	}
	if waiting == 0 || errors[api.OK] == 0 || errors[api.ErrFull] == 0 || errors[api.ErrClock] == 0 {
		t.Errorf("the draw leaves out something: %d waits, errors %v", waiting, errors)
	}
}

func TestAThreadAloneNeverWaits(t *testing.T) { // P13
	r := rand.New(rand.NewSource(3))
	for range 200 {
		p := newPlay(t, drawConfig(r))
		for range 30 {
			thread := r.Intn(p.config.Threads)
			p.begin(thread, drawOp(r, 6))
			p.finish()
		}
		if p.waiting != 0 {
			t.Fatalf("%d steps waited", p.waiting)
		}
	}
}
