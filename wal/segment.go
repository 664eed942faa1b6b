package wal

import (
	"strconv"
	"strings"
)

// A segment's name is this, and its number in so many digits.
const (
	namePrefix = "log."
	nameDigits = 6
)

// segment is a file of records: the number of its first one, and the places at which they begin, with that of the next one that would.
type segment struct {
	number int
	places []int
}

// emptySegment is one without records.
func emptySegment(number int) segment {
	return segment{number: number, places: []int{0}}
}

// readSegment has the records whose frames stand in b, one behind the other; bytes behind these are no part of it.
func readSegment(number int, b []byte) segment {
	s := emptySegment(number)
	for {
		size := standing(s.next(), b[s.size():])
		if size == 0 {
			return s
		}
		s.places = append(s.places, s.size()+size)
	}
}

func (s segment) name() string {
	number := strconv.Itoa(s.number)
	return namePrefix + strings.Repeat("0", nameDigits-len(number)) + number
}

// next is the number that follows its last record's.
func (s segment) next() int {
	return s.number + len(s.places) - 1
}

// place is where the record of a number begins, which is its own or the next one.
func (s segment) place(number int) int {
	return s.places[number-s.number]
}

func (s segment) size() int {
	return s.place(s.next())
}

// segmentNumbers are those of the files that are segments.
func segmentNumbers(files []string) []int {
	var numbers []int
	for _, name := range files {
		if n := segmentNumber(name); n > 0 {
			numbers = append(numbers, n)
		}
	}
	return numbers
}

// segmentNumber is 0 of a name that is no segment's.
func segmentNumber(name string) int {
	number, begins := strings.CutPrefix(name, namePrefix)
	if !begins || len(number) != nameDigits {
		return 0
	}
	n := 0
	for _, c := range []byte(number) {
		if c < '0' || c > '9' {
			return 0
		}
		n = n*10 + int(c-'0')
	}
	return n
}
