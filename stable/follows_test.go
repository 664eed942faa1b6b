package stable

import (
	"slices"
	"strings"
	"testing"

	"scriptorium/api"
	"scriptorium/disk"
)

// may is what Open may tell: a term, a vote, a snapshot, and a beginning of these entries, of which at least the first ones are there.
type may struct {
	w     api.Saved
	least int
}

func (m may) tells(w api.Saved) bool {
	n := len(w.Entries)
	if n < m.least || n > len(m.w.Entries) {
		return false
	}
	m.w.Entries = m.w.Entries[:n]
	return told(m.w) == told(w)
}

// promise is what is saved, of which entries so many are firm: there when a Put answered OK, or told by an Open. Its term rises from call to call, as a node's does.
type promise struct {
	saved may
	term  int
	draw  func(n int) int
}

// last is the last entry's Index.
func (p *promise) last() int {
	return p.saved.w.Snap.Index + len(p.saved.w.Entries)
}

// calls does a call, and tells what Open may tell if power failed meanwhile.
func (p *promise) calls(s *Stable) []may {
	p.term += p.draw(2)
	switch p.draw(8) {
	case 0, 1:
		return p.saveHard(s)
	case 2, 3:
		return p.saveSnap(s)
	default:
		return p.put(s)
	}
}

func (p *promise) saveHard(s *Stable) []may {
	before, after := p.saved, p.saved
	after.w.Term, after.w.Vote = p.term, p.draw(6)
	if s.SaveHard(after.w.Term, after.w.Vote) == api.OK {
		p.saved = after
	}
	return []may{before, after}
}

func (p *promise) put(s *Stable) []may {
	before := p.saved
	stay := max(len(before.w.Entries)-p.draw(4), 0)
	p.term = max(p.term, 1)
	l := step{term: p.term, kind: p.draw(3), sizes: []int{p.draw(3000), p.draw(1200), p.draw(9)}[:1+p.draw(3)]}.list(before.w.Snap.Index + stay + 1)
	after := before
	after.w.Entries = append(before.w.Entries[:stay:stay], l...)
	after.least = min(before.least, stay)
	err := s.Put(l)
	if err == api.OK {
		p.saved = may{after.w, len(after.w.Entries)}
	}
	if err == api.ErrFull {
		p.saved = after
		p.saved.w.Entries = after.w.Entries[:s.log.Last()-after.w.Snap.Index]
	}
	before.least = after.least
	return []may{before, after}
}

// saveSnap saves one that stands for entries of its own log, or for such as another node had: of a greater term, perhaps further on.
func (p *promise) saveSnap(s *Stable) []may {
	before, after := p.saved, p.saved
	w := &after.w
	w.Snap = snapshot(w.Snap.Index+1+p.draw(len(w.Entries)+2), 0, strings.Repeat("s", p.draw(900)), 1, 2+p.draw(4))
	behind := w.Snap.Index - before.w.Snap.Index
	own := behind <= len(w.Entries) && p.draw(4) > 0
	if own {
		w.Snap.Term = w.Entries[behind-1].Term
	} else {
		p.term++
		w.Snap.Term = p.term
	}
	w.Entries = w.Entries[min(behind, len(w.Entries)):]
	if !own {
		w.Entries = nil
	}
	after.least = min(max(before.least-behind, 0), len(w.Entries))
	if s.SaveSnap(w.Snap) == api.OK {
		p.saved = after
	}
	return []may{before, after}
}

// reopens opens a stable till power does not fail meanwhile.
func (p *promise) reopens(t *testing.T, d *disk.Disk) (*Stable, api.Saved) {
	t.Helper()
	for {
		d.Start()
		if p.draw(2) == 0 {
			d.Arm(p.draw(5), uint64(p.draw(3000)))
		}
		s, w, err := Open(d)
		if err == api.OK {
			return s, w
		}
		if err != api.ErrOff {
			t.Fatalf("Open: %d", err)
		}
	}
}

// turn does a call, with power failing anywhere, and looks at what is told then; it tells whether power failed.
func (p *promise) turn(t *testing.T, d *disk.Disk, s *Stable) (*Stable, bool) {
	t.Helper()
	if p.draw(4) == 0 {
		d.Arm(p.draw(12), uint64(p.draw(6000)))
	}
	mays := p.calls(s)
	if p.draw(9) == 0 {
		d.Crash(uint64(p.draw(6000)))
		mays = append(mays, p.saved)
	}
	if d.Up() {
		if s.log.Last() != max(p.last(), s.log.First()-1) {
			t.Fatalf("Last is %d, not %d", s.log.Last(), p.last())
		}
		return s, false
	}
	s, w := p.reopens(t, d)
	if !slices.ContainsFunc(mays, func(m may) bool { return m.tells(w) }) {
		t.Fatalf("%.300s is told, ahead of it %.300s, behind it %.300s", told(w), told(mays[0].w), told(mays[1].w))
	}
	p.saved = may{w, len(w.Entries)}
	return s, true
}

// Of rows of calls, with power failing anywhere, also while a stable is opened: what is told was there ahead of the call that was under way, or is there behind it; what was answered OK is there.
func TestWhatFollows(t *testing.T) {
	falls := 0
	for start := range 1500 {
		p := &promise{draw: draws(start + 9000)}
		d := disk.New([]int{6000, 20000, manyBytes}[start%3])
		s, _ := p.reopens(t, d)
		for range 60 {
			fell := false
			s, fell = p.turn(t, d, s)
			if fell {
				falls++
			}
		}
		d.Crash(0)
		if _, w := p.reopens(t, d); !p.saved.tells(w) {
			t.Fatalf("at the end %.300s is told, not %.300s", told(w), told(p.saved.w))
		}
	}
	if falls < 10000 {
		t.Errorf("power failed %d times alone", falls)
	}
}

// What was answered OK is there, whatever stays of what is loose.
func TestAnsweredStays(t *testing.T) {
	for _, keep := range keeps {
		d := disk.New(manyBytes)
		w := api.Saved{}
		for round := range 20 {
			s, _ := opened(t, restarted(d, keep))
			w.Term, w.Vote = round+1, round%6
			answers(t, "SaveHard", s.SaveHard(w.Term, w.Vote), api.OK)
			s, _ = opened(t, restarted(d, keep))
			l := commands(w.Snap.Index+len(w.Entries)+1, round+1, filling, "a", "b")
			w.Entries = append(w.Entries, l...)
			put(t, s, l...)
			_, got := opened(t, restarted(d, keep))
			if told(got) != told(w) {
				t.Fatalf("%.300s is told, not %.300s", told(got), told(w))
			}
			s, _ = opened(t, d)
			w.Snap = snapshot(w.Entries[0].Index, w.Entries[0].Term, "state", 1)
			w.Entries = w.Entries[1:]
			answers(t, "SaveSnap", s.SaveSnap(w.Snap), api.OK)
		}
		tells(t, d, w)
	}
}
