package raft

import (
	"fmt"
	"slices"
	"testing"

	"scriptorium/api"
	"scriptorium/wire"
)

// world is five nodes with what lasts of them, letters under way, and what is known of all that was told.
type world struct {
	t       *testing.T
	number  int
	draw    func(n int) int
	first   []int
	nodes   [6]*Node // nil, where it is down
	disks   [6]api.Saved
	pool    []api.Letter
	leaders map[int]int       // who leads in a term
	entries map[[2]int]string // what stands at an Index, of a term, and which term stands ahead
	told    map[int]string    // what was told as committed at an Index
	toldIn  map[int]int       // in which term first
	top     int               // the greatest Index that was told as committed
	states  [6]string         // what a node made of all that it was told
	state   map[int]string    // what all made of it up to an Index
	asked   map[[2]int]int    // the top when a node was asked to read
	did     map[string]int
}

func newWorld(t *testing.T, start int, did map[string]int) *world {
	w := &world{t: t, number: start, draw: draws(start), leaders: map[int]int{}, entries: map[[2]int]string{}, told: map[int]string{}, toldIn: map[int]int{}, state: map[int]string{0: ""}, asked: map[[2]int]int{}, did: did}
	for node := 1; node <= 1+w.draw(5); node++ {
		w.first = append(w.first, node)
	}
	for id := 1; id <= 5; id++ {
		w.start(id)
	}
	return w
}

func (w *world) fail(form string, l ...any) {
	w.t.Helper()
	w.t.Fatalf("start %d: %s", w.number, fmt.Sprintf(form, l...))
}

func (w *world) start(id int) {
	s := w.disks[id]
	w.nodes[id] = New(id, s, w.first)
	if w.nodes[id] == nil {
		w.fail("%d can't be made of %+v", id, s)
	}
	w.states[id] = string(s.Snap.Data)
	for k := range w.asked {
		if k[0] == id {
			delete(w.asked, k)
		}
	}
}

func (w *world) fall(id int) {
	w.nodes[id] = nil
	w.did["fell"]++
}

// after is what a state becomes by an entry; it stays short.
func after(state string, e api.Entry) string {
	sum := uint32(len(state))
	for _, c := range []byte(state + told(e)) {
		sum = sum*16777619 ^ uint32(c)
	}
	return fmt.Sprintf("%d %d", e.Index, sum)
}

// settle does what a node wants done. Power fails behind so many deeds, if it is armed.
func (w *world) settle(id, armed int) {
	n, d := w.nodes[id], &w.disks[id]
	w.look(id)
	o := n.Take()
	fails := func() bool { armed--; return armed == 0 }
	if o.Hard {
		d.Term, d.Vote = o.Term, o.Vote
		if fails() {
			w.fall(id)
			return
		}
	}
	if o.Install {
		w.install(id, o.Snap)
		if fails() {
			w.fall(id)
			return
		}
	}
	for i, e := range o.Put {
		if i == 0 {
			d.Entries = slices.Clone(d.Entries[:e.Index-d.Snap.Index-1])
		}
		d.Entries = append(d.Entries, e)
		if fails() {
			w.fall(id)
			return
		}
	}
	if told(*d) != told(n.Saved()) {
		w.fail("%d has %+v, and not on its disk: %+v", id, n.Saved(), *d)
	}
	for _, m := range o.Letters {
		if !wire.Right(m) {
			w.fail("%d writes %+v", id, m)
		}
		w.pool = append(w.pool, m)
	}
	for _, e := range o.Commit {
		w.commit(id, e)
	}
	for _, r := range o.Reads {
		w.ready(id, r)
	}
}

// install lays a snapshot onto a disk; of the entries those stay that go on from it.
func (w *world) install(id int, x api.Snap) {
	d := &w.disks[id]
	if string(x.Data) != w.state[x.Index] {
		w.fail("%d is installed %q at %d, not %q", id, x.Data, x.Index, w.state[x.Index])
	}
	var behind []api.Entry
	if k := x.Index - d.Snap.Index; k < len(d.Entries) && d.Entries[k].Term >= x.Term && d.Entries[k-1].Term == x.Term {
		behind = slices.Clone(d.Entries[k:])
	}
	d.Snap, d.Entries = x, behind
	w.states[id] = string(x.Data)
	w.did["installed"]++
}

// commit is that a node tells an entry as committed: none ever tells another one there.
func (w *world) commit(id int, e api.Entry) {
	if text := told(e); w.told[e.Index] == "" {
		w.told[e.Index] = text
		w.top = max(w.top, e.Index)
	} else if w.told[e.Index] != text {
		w.fail("%d tells %s at %d, not %s", id, text, e.Index, w.told[e.Index])
	}
	term := w.nodes[id].View().Term
	if was, ok := w.toldIn[e.Index]; !ok || term < was {
		w.toldIn[e.Index] = term
	}
	w.states[id] = after(w.states[id], e)
	if w.state[e.Index] == "" {
		w.state[e.Index] = w.states[id]
	}
	if w.state[e.Index] != w.states[id] {
		w.fail("%d made %q at %d, not %q", id, w.states[id], e.Index, w.state[e.Index])
	}
	w.did["committed"]++
}

func (w *world) ready(id int, r api.Ready) {
	top, ok := w.asked[[2]int{id, r.Number}]
	if !ok || r.Index < top {
		w.fail("%d reads %+v, while %d had been told (%v)", id, r, top, ok)
	}
	delete(w.asked, [2]int{id, r.Number})
	w.did["read"]++
}

// look checks that there is one leader of a term, that it has what was committed, and that logs match.
func (w *world) look(id int) {
	v, s := w.nodes[id].View(), w.nodes[id].Saved()
	ahead := s.Snap.Term
	for _, e := range s.Entries {
		at, text := [2]int{e.Index, e.Term}, fmt.Sprint(ahead, e)
		if w.entries[at] == "" {
			w.entries[at] = text
		}
		if w.entries[at] != text {
			w.fail("%d has %s at %d, not %s", id, text, at, w.entries[at])
		}
		ahead = e.Term
	}
	if v.Role != api.Leads {
		return
	}
	if w.leaders[v.Term] == 0 {
		w.leaders[v.Term] = id
		w.did["led"]++
	}
	if w.leaders[v.Term] != id {
		w.fail("%d and %d lead in the term %d", id, w.leaders[v.Term], v.Term)
	}
	for i, term := range w.toldIn {
		if term < v.Term && i > v.First && (i > v.Last || told(s.Entries[i-v.First-1]) != w.told[i]) {
			w.fail("%d leads in the term %d without %d, committed in %d", id, v.Term, i, term)
		}
	}
}

// step does something, of which calm things alone lose nothing.
func (w *world) step() {
	id := 1 + w.draw(5)
	n := w.nodes[id]
	if n == nil {
		if w.draw(4) == 0 {
			w.start(id)
		}
		return
	}
	switch k := w.draw(40); {
	case k < 9:
		n.Tick(w.draw(10))
	case k < 28:
		w.deliver()
		return
	case k < 31:
		n.Propose(api.KindCommand, []byte{byte(id), byte(w.draw(256))}, nil)
	case k < 33:
		w.read(id)
	case k == 33:
		w.change(id)
	case k == 34:
		w.compact(id)
	case k == 35 && w.draw(3) == 0:
		w.fall(id)
		return
	case k == 36 && len(w.pool) > 0:
		w.lose(w.draw(len(w.pool)))
		return
	}
	w.settle(id, w.armed())
}

// armed is mostly 0: power does not fail.
func (w *world) armed() int {
	if w.draw(60) > 0 {
		return 0
	}
	return 1 + w.draw(5)
}

func (w *world) lose(i int) {
	w.pool = slices.Delete(w.pool, i, i+1)
}

// deliver lets any letter come; it may come once more later.
func (w *world) deliver() {
	for len(w.pool) > 40 {
		w.lose(w.draw(len(w.pool)))
	}
	if len(w.pool) == 0 {
		return
	}
	i := w.draw(len(w.pool))
	m := w.pool[i]
	if w.draw(8) > 0 {
		w.lose(i)
	}
	w.hear(m, w.armed())
}

func (w *world) hear(m api.Letter, armed int) {
	n := w.nodes[m.To]
	if n == nil {
		return
	}
	if e := n.Hear(m); e != api.OK {
		w.fail("%d answers %+v by %v", m.To, m, e)
	}
	w.settle(m.To, armed)
}

func (w *world) read(id int) {
	if number, e := w.nodes[id].Read(); e == api.OK {
		w.asked[[2]int{id, number}] = w.top
	}
}

func (w *world) change(id int) {
	nodes, node := w.nodes[id].View().Group, 1+w.draw(5)
	if i := slices.Index(nodes, node); i >= 0 {
		nodes = slices.Delete(nodes, i, i+1)
	} else {
		nodes = append(nodes, node)
		slices.Sort(nodes)
	}
	if _, _, e := w.nodes[id].Propose(api.KindNodes, nil, nodes); e == api.OK {
		w.did["changed"]++
	}
}

// compact makes a snapshot of all that a node was told.
func (w *world) compact(id int) {
	i := w.disks[id].Snap.Index
	for w.state[i+1] != "" && w.state[i] != w.states[id] {
		i++
	}
	x, e := w.nodes[id].Compact(i, []byte(w.states[id]))
	if e != api.OK {
		return
	}
	d := &w.disks[id]
	d.Entries = slices.Clone(d.Entries[i-d.Snap.Index:])
	d.Snap = x
	w.did["compacted"]++
}

// calm lets all nodes go on, and nothing is lost any more, till one leads by whom a new entry comes to all of its group. Nodes that left without hearing of it may still stand; they end no more than one term after the other.
func (w *world) calm() {
	w.pool = nil
	for id := range w.nodes[1:] {
		w.start(id + 1)
	}
	goal := 0
	for range 400 {
		for i, n := range w.nodes[1:] {
			n.Tick(w.draw(10))
			if goal == 0 {
				goal, _, _ = n.Propose(api.KindCommand, []byte("calm"), nil)
			}
			w.settle(i+1, 0)
		}
		for len(w.pool) > 0 {
			m := w.pool[0]
			w.lose(0)
			w.hear(m, 0)
		}
		if goal > 0 && w.allHave(goal) {
			w.did["calm"]++
			return
		}
	}
	if !w.isStuck() {
		w.fail("nobody leads, or not all follow")
	}
}

// isStuck tells whether one that does not stand, as its own entries have it outside, refuses its vote to others, as theirs do not go as far. So it is by the chapter's words: a leader may fall when it has proposed its own leaving, and nobody else has that.
func (w *world) isStuck() bool {
	var most *Node
	for _, n := range w.nodes[1:] {
		if most == nil || !n.isUpToDate(ask(1, 2, 1, most.last(), most.termAt(most.last()))) {
			most = n
		}
	}
	return !slices.Contains(most.group(), most.id)
}

// allHave tells whether one leads, and all of its group know that an Index is committed.
func (w *world) allHave(index int) bool {
	for _, n := range w.nodes[1:] {
		v := n.View()
		has := func(id int) bool { return w.nodes[id].View().Commit >= index }
		if v.Role == api.Leads && !slices.ContainsFunc(v.Group, func(id int) bool { return !has(id) }) {
			return true
		}
	}
	return false
}

// Whole groups of nodes, whatever becomes of letters and nodes: one leads in a term, logs match, what is committed stays, reads are not old; and in the end one leads.
func TestWholeGroups(t *testing.T) {
	did := map[string]int{}
	for start := range 300 {
		w := newWorld(t, start, did)
		for range 3000 {
			w.step()
		}
		w.calm()
	}
	for _, what := range []string{"led", "committed", "read", "installed", "compacted", "changed", "fell"} {
		if did[what] < 300 {
			t.Errorf("only %d: %s", did[what], what)
		}
	}
}
