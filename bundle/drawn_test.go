package bundle_test

import (
	"math/rand"
	"sort"
	"testing"

	"bundle/api"
	"bundle/bundle"
)

var kinds = map[string]int{"list": api.List, "tree": api.Tree}

// record: an operation that has ended, with the moments at which it began and ended.
type record struct {
	op         api.Op
	answer     api.Answer
	began, end int
}

// took: it has taken its stamp.
func (r record) took() bool { return r.answer.Did && r.op.Kind <= api.Remove }

// play: a store and its model, worked side by side.
type play struct {
	t      *testing.T
	config api.Config
	store  *bundle.Store
	model  *model
	now    []record // of each thread, what it has under way
	ended  []record
	moment int
	swept  bool // a sweep has begun
	counts
}

// counts: how often something came about.
type counts struct {
	waiting int // steps of operations that waited
	held    int // those of reads among them
	past    int // reads that answered what the store was before
	stopped int // steps of sweeps that waited
	freed   int // nodes that sweeps laid back while operations were under way
	dropped int // entries
}

func (c *counts) add(other counts) {
	c.waiting += other.waiting
	c.held += other.held
	c.past += other.past
	c.stopped += other.stopped
	c.freed += other.freed
	c.dropped += other.dropped
}

func newPlay(t *testing.T, c api.Config) *play {
	return &play{t: t, config: c, store: makeStore(t, c), model: newModel(c), now: make([]record, c.Threads)}
}

func (p *play) begin(thread int, op api.Op) {
	p.t.Helper()
	begin(p.t, p.store, thread, op)
	p.model.begin(thread, op)
	p.moment++
	p.now[thread] = record{op: op, began: p.moment}
}

// step: the same answer from both, and the same to be seen behind it.
func (p *play) step(thread int) int {
	p.t.Helper()
	want := p.model.step(thread)
	step(p.t, p.store, thread, want)
	shows(p.t, p.store, p.model.nodes, p.model.entries, p.model.clock)
	p.moment++
	if want == api.Waited {
		p.waiting++
		if p.now[thread].op.Kind > api.Remove {
			p.held++
		}
	}
	if want == api.Ended {
		r := p.now[thread]
		r.end = p.moment
		r.answer = p.model.threads[thread].answer
		p.ended = append(p.ended, r)
		if r.op.Kind > api.Remove && r.answer.Stamp < p.store.Clock() {
			p.past++
		}
	}
	for i, th := range p.model.threads {
		if th.hasEnded {
			answers(p.t, p.store, i, th.answer)
		}
	}
	return want
}

// sweep: a step of the sweep, with the same answer from both.
func (p *play) sweep() int {
	p.t.Helper()
	nodes, entries := p.model.nodes, p.model.entries
	want := p.model.sweep()
	if how := p.store.Sweep(); how != want {
		p.t.Fatalf("Sweep = %d, want %d", how, want)
	}
	shows(p.t, p.store, p.model.nodes, p.model.entries, p.model.clock)
	p.swept = true
	if want == api.Waited {
		p.stopped++
	}
	if p.isBusy() {
		p.freed += p.model.nodes - nodes
		p.dropped += p.model.entries - entries
	}
	return want
}

func (p *play) isBusy() bool {
	for _, th := range p.model.threads {
		if th.busy {
			return true
		}
	}
	return false
}

// checkQuiet: a whole sweep while no operation is under way leaves what the keys need, and no more (P14).
func (p *play) checkQuiet(keys int) {
	p.t.Helper()
	for p.model.sweepStep != nil { // one that began earlier is no whole one
		if p.sweep() == api.Waited {
			p.t.Fatal("Sweep waits, and no operation is under way")
		}
	}
	sweepEnds(p.t, p.store, p.config.Threads+3)
	nodes := keys
	if p.config.Kind == api.Tree {
		nodes = 2 * keys
	}
	shows(p.t, p.store, p.config.Nodes-nodes, p.config.Entries-nodes-1, p.model.clock)
}

// finish: the threads step in turn till all operations have ended (P13), and the sweep with them, if one has begun.
func (p *play) finish() {
	p.t.Helper()
	most := p.config.Threads * (p.config.Threads + 2) * (p.config.Nodes + 16)
	for turn := 0; ; turn++ {
		busy, waited := 0, 0
		for thread := range p.model.threads {
			if !p.model.threads[thread].busy {
				continue
			}
			busy++
			if p.step(thread) == api.Waited {
				waited++
			}
		}
		if busy == 0 {
			return
		}
		if waited == busy {
			p.t.Fatal("a turn goes by in which each waits")
		}
		if turn == most {
			p.t.Fatalf("operations go on behind %d turns", most)
		}
		if p.swept {
			p.sweep()
		}
	}
}

// checkOrder: in the order of their stamps the operations answer what plain pairs would (P12). It tells how many pairs there are in the end.
func (p *play) checkOrder() int {
	p.t.Helper()
	var done []record
	for _, r := range p.ended {
		if r.answer.Err == api.OK {
			done = append(done, r)
		}
	}
	sort.SliceStable(done, func(i, j int) bool {
		a, b := done[i], done[j]
		if a.answer.Stamp != b.answer.Stamp {
			return a.answer.Stamp < b.answer.Stamp
		}
		return a.took() && !b.took()
	})
	pairs := map[int]int{}
	clock := 0
	for i, r := range done {
		want := plain(pairs, r.op)
		if r.took() {
			clock++
		}
		want.Stamp = clock
		if !sameAnswer(r.answer, want) {
			p.t.Fatalf("P12: %+v, want %+v", r, want)
		}
		for _, later := range done[i+1:] {
			if later.end < r.began {
				p.t.Fatalf("P12: %+v had ended when %+v began, and stands behind it", later, r)
			}
		}
	}
	if clock != p.store.Clock() {
		p.t.Fatalf("%d stamps were taken, Clock is %d", clock, p.store.Clock())
	}
	return len(pairs)
}

// plain: what plain pairs answer, and become.
func plain(pairs map[int]int, op api.Op) api.Answer {
	value, isThere := pairs[op.Key]
	switch op.Kind {
	case api.Insert:
		if !isThere {
			pairs[op.Key] = op.Value
		}
		return api.Answer{Did: !isThere}
	case api.Remove:
		delete(pairs, op.Key)
		return api.Answer{Did: isThere, Value: value}
	case api.Lookup:
		return api.Answer{Did: isThere, Value: value}
	}
	var answer api.Answer
	for _, span := range op.Spans {
		var list []api.Pair
		for key, value := range pairs {
			if span.Lo <= key && key <= span.Hi {
				list = append(list, api.Pair{Key: key, Value: value})
			}
		}
		sort.Slice(list, func(i, j int) bool { return list[i].Key < list[j].Key })
		answer.Spans = append(answer.Spans, list)
	}
	return answer
}

// checkRoom: without a sweep nothing comes back but what was taken for nothing.
func (p *play) checkRoom() {
	p.t.Helper()
	if p.swept {
		return
	}
	nodes, entries := p.config.Nodes, p.config.Entries-1
	for _, r := range p.ended {
		if r.took() {
			entries--
		}
		if r.took() && r.op.Kind == api.Insert {
			nodes -= 1 + p.config.Kind
			entries -= 1 + p.config.Kind
		}
	}
	shows(p.t, p.store, nodes, entries, p.store.Clock())
}

func drawConfig(r *rand.Rand, kind int) api.Config {
	c := api.Config{Kind: kind, Threads: 1 + r.Intn(pick(r.Intn(2), 3, api.MaxThreads)), Nodes: r.Intn(api.MaxNodes + 1), Entries: 1 + r.Intn(api.MaxEntries), Limit: api.MaxLimit}
	if r.Intn(2) == 0 {
		c.Nodes, c.Entries = api.MaxNodes, api.MaxEntries
	}
	if r.Intn(3) == 0 {
		c.Limit = r.Intn(20)
	}
	return c
}

func drawOp(r *rand.Rand, keys int) api.Op {
	op := api.Op{Kind: api.Insert + r.Intn(4), Key: drawKey(r, keys), Value: r.Int() - r.Int()}
	if op.Kind == api.Scan {
		op.Spans = drawSpans(r, keys)
	} else if op.Kind == api.Lookup && r.Intn(2) == 0 {
		op.Kind = api.Insert
	}
	return op
}

func drawKey(r *rand.Rand, keys int) int {
	if r.Intn(keys) == 0 {
		return api.MaxKey
	}
	return r.Intn(keys)
}

func drawSpans(r *rand.Rand, keys int) []api.Span {
	spans := make([]api.Span, pick(r.Intn(4), 1, 2, 1+r.Intn(api.MaxSpans), api.MaxSpans))
	isWide := r.Intn(3) == 0
	for i := range spans {
		a, b := drawKey(r, keys), drawKey(r, keys)
		spans[i] = api.Span{Lo: min(a, b), Hi: max(a, b)}
		if isWide {
			spans[i].Lo = 0
		}
	}
	return spans
}

// mistake: a call that is refused; what comes behind it shows whether it changed something.
func (p *play) mistake(r *rand.Rand) {
	p.t.Helper()
	thread := r.Intn(p.config.Threads)
	want := api.ErrOp
	if p.model.threads[thread].busy {
		want = api.ErrBusy
	}
	if e := p.store.Begin(thread, insert(-1, 0)); e != want {
		p.t.Fatalf("Begin(%d) of no key = %d, want %d", thread, e, want)
	}
	if _, e := p.store.Step(p.config.Threads); e != api.ErrThread {
		p.t.Fatalf("Step of no thread = %d", e)
	}
	if p.model.threads[thread].busy {
		return
	}
	if _, e := p.store.Step(thread); e != api.ErrIdle {
		p.t.Fatalf("Step of an idle thread = %d", e)
	}
}

// drawPlay: drawn operations, of which the threads make drawn steps, with steps of the sweep and refused calls between them; then all end.
func drawPlay(t *testing.T, r *rand.Rand, kind int) *play {
	p := newPlay(t, drawConfig(r, kind))
	keys := 1 + r.Intn(12)
	sweeping := pick(r.Intn(3), 0, 1, 4) // of ten steps so many are the sweep's
	last := 0
	for range 20 + r.Intn(400) {
		if r.Intn(10) < sweeping {
			p.sweep()
			continue
		}
		if r.Intn(20) == 0 {
			p.mistake(r)
		}
		thread := r.Intn(p.config.Threads)
		if r.Intn(3) > 0 {
			thread = last // some go on for a while
		}
		last = thread
		if p.model.threads[thread].busy {
			p.step(thread)
		} else {
			p.begin(thread, drawOp(r, keys))
		}
	}
	p.finish()
	return p
}

func TestDrawnSchedules(t *testing.T) { // P5 to P14
	for name, kind := range kinds {
		t.Run(name, func(t *testing.T) {
			t.Parallel()
			playOften(t, kind)
		})
	}
}

func playOften(t *testing.T, kind int) {
	r := rand.New(rand.NewSource(1))
	errors := map[api.Errno]int{}
	var sum counts
	for range 2000 {
		p := drawPlay(t, r, kind)
		p.checkRoom()
		keys := p.checkOrder()
		p.checkQuiet(keys)
		sum.add(p.counts)
		for _, e := range p.ended {
			errors[e.answer.Err]++
		}
	}
	for _, e := range []api.Errno{api.OK, api.ErrFull, api.ErrClock, api.ErrLarge} {
		if errors[e] == 0 {
			t.Errorf("the draw leaves out the error %d: %v", e, errors)
		}
	}
	if sum.waiting == sum.held || sum.held == 0 || sum.past == 0 || sum.stopped == 0 || sum.freed == 0 || sum.dropped == 0 {
		t.Errorf("the draw leaves out something: %+v", sum)
	}
	t.Logf("errors %v; %+v", errors, sum)
}

// choices: what of two to do next, where both can be done; those behind the end are 0.
type choices struct {
	made []int
	next int
}

func (c *choices) choose() int {
	if c.next == len(c.made) {
		c.made = append(c.made, 0)
	}
	c.next++
	return c.made[c.next-1]
}

// advance: the next choices in order; false if there are none left.
func (c *choices) advance() bool {
	c.next = 0
	for len(c.made) > 0 && c.made[len(c.made)-1] == 1 {
		c.made = c.made[:len(c.made)-1]
	}
	if len(c.made) == 0 {
		return false
	}
	c.made[len(c.made)-1] = 1
	return true
}

func TestEveryScheduleOfAReadBesideAnUpdate(t *testing.T) { // P8, P9, P11, P12
	all := scan(span(4, 9), span(0, 5))
	for _, c := range []struct {
		kind         int
		update, read api.Op
	}{
		{api.List, insert(3, 30), lookup(5)}, {api.List, insert(5, 51), lookup(5)}, {api.List, insert(6, 60), lookup(6)}, {api.List, insert(6, 60), all},
		{api.List, remove(5), lookup(5)}, {api.List, remove(5), lookup(9)}, {api.List, remove(5), all},
		{api.Tree, insert(3, 30), lookup(5)}, {api.Tree, insert(5, 51), lookup(5)}, {api.Tree, insert(6, 60), lookup(6)}, {api.Tree, insert(6, 60), all},
		{api.Tree, remove(5), lookup(5)}, {api.Tree, remove(5), lookup(9)}, {api.Tree, remove(5), all},
	} {
		t.Run("", func(t *testing.T) {
			t.Parallel()
			count := everyPair(t, c.kind, c.update, c.read)
			if count < 100 {
				t.Errorf("%+v beside %+v: %d schedules", c.read, c.update, count)
			}
		})
	}
}

// everyPair: all schedules of an update and a read, in a store that has the key 5; how many there are.
func everyPair(t *testing.T, kind int, update, read api.Op) int {
	config := small()
	config.Kind = kind
	count := 0
	for left := (&choices{}); count == 0 || left.advance(); count++ {
		p := newPlay(t, config)
		p.begin(0, insert(5, 50))
		p.finish()
		p.begin(0, update)
		p.begin(1, read)
		for _, thread := range []int{0, 0, 0, 1} { // steps of which the other thread sees nothing
			p.step(thread)
		}
		last := api.Moved
		thread := 0
		for p.model.threads[0].busy && p.model.threads[1].busy {
			if last == api.Waited {
				thread = 1 - thread
			} else {
				thread = left.choose()
			}
			last = p.step(thread)
		}
		p.finish()
		p.checkOrder()
		p.checkRoom()
	}
	return count
}

func TestAThreadAloneNeverWaits(t *testing.T) { // P13
	r := rand.New(rand.NewSource(3))
	for i := range 400 {
		p := newPlay(t, drawConfig(r, pick(i, api.List, api.Tree)))
		for range 30 {
			thread := r.Intn(p.config.Threads)
			p.begin(thread, drawOp(r, 6))
			p.finish()
		}
		if p.waiting != 0 {
			t.Fatalf("%d steps waited", p.waiting)
		}
	}
}
