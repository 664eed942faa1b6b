package raft

import (
	"math"
	"testing"

	"scriptorium/api"
)

// patience is how many ticks of a draw it takes till one that follows stands.
func patience(t *testing.T, draw int) int {
	t.Helper()
	n := made(t, 1, api.Saved{}, 1, 2)
	for i := 1; i <= 40; i++ {
		n.Tick(draw)
		if n.View().Role != api.Follows {
			return i
		}
	}
	return 0
}

func TestPatience(t *testing.T) {
	for draw, want := range map[int]int{
		0: 10, 1: 11, 2: 12, 9: 19, 10: 10, 11: 11, 19: 19, 20: 10, 123456789: 19, math.MaxInt: 17,
		-1: 10, -2: 11, -3: 12, -10: 19, -11: 10, -12: 11, math.MinInt: 17, math.MinInt + 1: 16,
	} {
		same(t, "ticks till it stands", []int{draw, patience(t, draw)}, []int{draw, want})
	}
}

// The draw that counts is that of the tick.
func TestDrawOfTheTick(t *testing.T) {
	n := made(t, 1, api.Saved{}, 1, 2)
	for range 12 {
		n.Tick(9)
	}
	n.Tick(4)
	stands(t, n, 0, 0, api.Follows, 0, 0, 0)
	n.Tick(4)
	stands(t, n, 1, 1, api.Stands, 0, 0, 0)
	tick(n, 9)
	n.Tick(1)
	stands(t, n, 1, 1, api.Stands, 0, 0, 0)
	n.Tick(0)
	stands(t, n, 2, 1, api.Stands, 0, 0, 0)
}

func TestStand(t *testing.T) {
	s := api.Saved{Term: 6, Vote: 2, Snap: snapshot(5, 2, "x", 1, 2, 3, 5), Entries: []api.Entry{none(6, 2), none(7, 4)}}
	n := made(t, 3, s)
	tick(n, 10)
	stands(t, n, 7, 3, api.Stands, 0, 5, 7)
	same(t, "it stands", n.Take(), api.Out{Hard: true, Term: 7, Vote: 3, Letters: []api.Letter{ask(3, 1, 7, 7, 4), ask(3, 2, 7, 7, 4), ask(3, 5, 7, 7, 4)}})
	hears(t, n, vote(1, 3, 7, true))
	tick(n, 9)
	same(t, "it waits", n.Take(), api.Out{})
	tick(n, 1)
	stands(t, n, 8, 3, api.Stands, 0, 5, 7)
	same(t, "it stands anew", n.Take(), api.Out{Hard: true, Term: 8, Vote: 3, Letters: []api.Letter{ask(3, 1, 8, 7, 4), ask(3, 2, 8, 7, 4), ask(3, 5, 8, 7, 4)}})
	hears(t, n, vote(2, 3, 8, true))
	stands(t, n, 8, 3, api.Stands, 0, 5, 7) // the vote of 1 was one of the term 7
	hears(t, n, vote(1, 3, 8, true))
	stands(t, n, 8, 3, api.Leads, 3, 5, 8)
}

// With a snapshot alone, its Term counts as that of the last entry.
func TestStandBehindASnapshot(t *testing.T) {
	n := made(t, 1, api.Saved{Term: 3, Snap: snapshot(5, 2, "", 1, 2)}, 1)
	tick(n, 10)
	writes(t, n, ask(1, 2, 4, 5, 2))
}

// It does not lead at once any more, but stands, where its leader falls silent.
func TestFollowerStands(t *testing.T) {
	n := made(t, 1, api.Saved{}, 1, 2, 3)
	hears(t, n, bring(2, 1, 1, 0, 0, 0, 1, none(1, 1)))
	stands(t, n, 1, 0, api.Follows, 2, 0, 1)
	n.Take()
	tick(n, 9)
	hears(t, n, bring(2, 1, 1, 1, 1, 1, 2))
	n.Take()
	tick(n, 9)
	same(t, "it waits", n.Take(), api.Out{})
	tick(n, 1)
	stands(t, n, 2, 1, api.Stands, 0, 1, 1)
	writes(t, n, ask(1, 2, 2, 1, 1), ask(1, 3, 2, 1, 1))
}

// In no group nobody stands: neither with none at all, nor in another one's.
func TestTickOutside(t *testing.T) {
	for _, n := range []*Node{
		made(t, 1, api.Saved{}),
		made(t, 1, api.Saved{}, 2, 3),
		made(t, 1, api.Saved{Snap: snapshot(5, 0, "", 2, 3)}, 1),
		made(t, 1, api.Saved{Term: 2, Entries: []api.Entry{change(1, 1, 1), change(2, 1, 1, 2), change(3, 2, 2)}}, 1),
	} {
		was := n.View()
		tick(n, 50)
		same(t, "View", n.View(), was)
		same(t, "Take", n.Take(), api.Out{})
	}
}

// Its clock stands still while it is outside.
func TestClockOutside(t *testing.T) {
	n := made(t, 1, api.Saved{}, 2, 3)
	tick(n, 30)
	hears(t, n, bring(2, 1, 1, 0, 0, 0, 1, change(1, 1, 1, 2, 3)))
	tick(n, 9)
	stands(t, n, 1, 0, api.Follows, 2, 0, 1)
	tick(n, 1)
	stands(t, n, 2, 1, api.Stands, 0, 0, 1)
}

func TestMaxTerm(t *testing.T) {
	n := made(t, 1, api.Saved{Term: 999998, Vote: 2}, 1, 2)
	tick(n, 10)
	stands(t, n, 999999, 1, api.Stands, 0, 0, 0)
	writes(t, n, ask(1, 2, 999999, 0, 0))
	tick(n, 35)
	stands(t, n, 999999, 1, api.Stands, 0, 0, 0)
	same(t, "Take", n.Take(), api.Out{})
	hears(t, n, vote(2, 1, 999999, true))
	stands(t, n, 999999, 1, api.Leads, 1, 0, 1)
	n = made(t, 1, api.Saved{Term: 999999, Vote: 2}, 1)
	hears(t, n, bring(3, 1, 999999, 0, 0, 0, 0))
	n.Take()
	tick(n, 100)
	stands(t, n, 999999, 2, api.Follows, 3, 0, 0)
	same(t, "Take", n.Take(), api.Out{})
}

// The clock is 0 also where there is no greater term: with another draw, the next ten ticks tell.
func TestClockAtMaxTerm(t *testing.T) {
	n := made(t, 1, api.Saved{Term: 999999}, 1, 2)
	tick(n, 10)
	hears(t, n, bring(2, 1, 999999, 0, 0, 0, 0))
	stands(t, n, 999999, 0, api.Follows, 2, 0, 0)
}

func TestBeat(t *testing.T) {
	n := leads(t, api.Saved{}, 1, 2, 4)
	hears(t, n, answer(2, 1, 1, true, 1, 1))
	n.Take()
	for round := 2; round < 6; round++ {
		tick(n, 2)
		same(t, "two ticks", n.Take(), api.Out{})
		n.Tick(round)
		same(t, "three ticks", n.Take(), api.Out{Letters: []api.Letter{bring(1, 2, 1, 1, 1, 1, round), bring(1, 4, 1, 0, 0, 1, round, none(1, 1))}})
	}
	stands(t, n, 1, 1, api.Leads, 1, 1, 1)
}

// Reads make rounds, but no beat later.
func TestBeatAndRead(t *testing.T) {
	n := leads(t, api.Saved{}, 1, 2)
	hears(t, n, answer(2, 1, 1, true, 1, 1))
	tick(n, 2)
	n.Read()
	n.Take()
	n.Tick(0)
	writes(t, n, bring(1, 2, 1, 1, 1, 1, 3))
}

// A clock that has gone on while it stood does not make the first beat earlier.
func TestFirstBeat(t *testing.T) {
	n := made(t, 1, api.Saved{}, 1, 2)
	tick(n, 19)
	hears(t, n, vote(2, 1, 1, true))
	n.Take()
	tick(n, 2)
	same(t, "two ticks", n.Take(), api.Out{})
	tick(n, 1)
	writes(t, n, bring(1, 2, 1, 0, 0, 0, 2, none(1, 1)))
}

// One that leads beats also where it is alone; nobody hears it.
func TestBeatAlone(t *testing.T) {
	n := leads(t, api.Saved{}, 1)
	tick(n, 100)
	same(t, "Take", n.Take(), api.Out{})
	stands(t, n, 1, 1, api.Leads, 1, 1, 1)
}
