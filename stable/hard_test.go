package stable

import (
	"math"
	"testing"

	"scriptorium/api"
	"scriptorium/disk"
)

func TestSaveHard(t *testing.T) {
	d := disk.New(manyBytes)
	s, _ := opened(t, d)
	for _, term := range []int{0, 1, 127, 128, 999998, 999999, 3, 0} {
		for vote := range 6 {
			answers(t, "SaveHard", s.SaveHard(term, vote), api.OK)
			hasFiles(t, d, "hard", hardText(term, vote), "log.000001", "")
			if vote%2 == 0 {
				tells(t, d, api.Saved{Term: term, Vote: vote})
			}
		}
	}
}

func TestSaveHardWrong(t *testing.T) {
	for _, ready := range []func(s *Stable){func(s *Stable) {}, func(s *Stable) { s.SaveHard(4, 1) }} {
		d := disk.New(manyBytes)
		s, _ := opened(t, d)
		ready(s)
		was := content(d)
		d.Arm(0, 0)
		for _, term := range []int{-1, 1000000, 1000001, 1 << 40, math.MinInt, math.MaxInt} {
			for _, vote := range []int{-1, 0, 1, 5, 6} {
				answers(t, "SaveHard of a wrong term", s.SaveHard(term, vote), api.ErrArg)
			}
		}
		for _, vote := range []int{-1, -5, 6, 7, 257, 1 << 32, math.MinInt, math.MaxInt} {
			for _, term := range []int{0, 1, 999999, 1000000} {
				answers(t, "SaveHard of a wrong vote", s.SaveHard(term, vote), api.ErrArg)
			}
		}
		hasFiles(t, d, was...)
		d.Crash(0)
		answers(t, "SaveHard of a wrong term, without power", s.SaveHard(-1, 0), api.ErrArg)
		answers(t, "SaveHard without power", s.SaveHard(1, 0), api.ErrOff)
	}
}

// What else is saved stays.
func TestSaveHardElse(t *testing.T) {
	x := snapshot(1, 1, "x", 1)
	d := laid(t, "log.000001", framed(three...), "snap", snapText(x))
	s, _ := opened(t, d)
	answers(t, "SaveHard", s.SaveHard(9, 5), api.OK)
	hasFiles(t, d, "hard", hardText(9, 5), "log.000001", framed(three...), "snap", snapText(x))
	tells(t, d, api.Saved{Term: 9, Vote: 5, Snap: x, Entries: three[1:]})
}
