package wire

import (
	"slices"
	"testing"

	"scriptorium/api"
)

// checkEncode: the letter is right, is written as these bytes, and is read from them.
func checkEncode(t *testing.T, m api.Letter, want string) {
	t.Helper()
	b, err := encode(t, m)
	if string(b) != want || err != api.OK {
		t.Errorf("Encode of %.300s is %.300q, %v, not %.300q", told(m), b, err, want)
	}
	got, fault := decode(t, []byte(want))
	if fault != nil || told(got) != told(m) {
		t.Errorf("Decode of %.300q is %v, %.300s, not %.300s", want, fault, told(got), told(m))
	}
}

// checkWrong: the letter is not right, and is not written.
func checkWrong(t *testing.T, m api.Letter) {
	t.Helper()
	if b, err := encode(t, m); len(b) != 0 || err != api.ErrArg {
		t.Errorf("Encode of %.300s is %.60q, %v", told(m), b, err)
	}
}

func TestEncodeExamples(t *testing.T) {
	checkEncode(t, api.Letter{Kind: api.LVote, From: 1, To: 2, Term: 3, Ok: true}, "\x02\x01\x02\x03\x01")
}

func TestEncodeAskByHand(t *testing.T) {
	checkEncode(t, ask(1, 0, 0), "\x01\x01\x02\x01\x00\x00")
	checkEncode(t, ask(7, 5, 6), "\x01\x01\x02\x07\x05\x06")
	checkEncode(t, ask(999999, 999999, 999999), "\x01\x01\x02\xbf\x84\x3d\xbf\x84\x3d\xbf\x84\x3d")
	checkEncode(t, ask(300, 127, 128), "\x01\x01\x02\xac\x02\x7f\x80\x01")
}

func TestEncodeVoteByHand(t *testing.T) {
	checkEncode(t, vote(1, false), "\x02\x02\x01\x01\x00")
	checkEncode(t, vote(1, true), "\x02\x02\x01\x01\x01")
	checkEncode(t, vote(999999, true), "\x02\x02\x01\xbf\x84\x3d\x01")
	checkEncode(t, api.Letter{Kind: 2, From: 5, To: 4, Term: 128}, "\x02\x05\x04\x80\x01\x00")
}

func TestEncodeAppendByHand(t *testing.T) {
	checkEncode(t, appending(1, 0, 0, 0, 0), "\x03\x03\x05\x01\x00\x00\x00\x00\x00")
	checkEncode(t, appending(9, 1, 2, 3, 4), "\x03\x03\x05\x09\x01\x02\x03\x04\x00")
	checkEncode(t, appending(999999, 999999, 999999, 999999, 1<<30), "\x03\x03\x05\xbf\x84\x3d\xbf\x84\x3d\xbf\x84\x3d\xbf\x84\x3d\x80\x80\x80\x80\x04\x00")
	checkEncode(t, appending(1, 0, 0, 0, 0, none(1, 1)), "\x03\x03\x05\x01\x00\x00\x00\x00\x01\x01\x00")
	checkEncode(t, appending(1, 0, 0, 0, 0, command(1, 1, "")), "\x03\x03\x05\x01\x00\x00\x00\x00\x01\x01\x01\x00")
	checkEncode(t, appending(1, 0, 0, 0, 0, command(1, 1, "\x00x")), "\x03\x03\x05\x01\x00\x00\x00\x00\x01\x01\x01\x02\x00x")
	checkEncode(t, appending(1, 0, 0, 0, 0, grouping(1, 1, 5)), "\x03\x03\x05\x01\x00\x00\x00\x00\x01\x01\x02\x01\x05")
	checkEncode(t, appending(200, 127, 0, 0, 0, grouping(128, 1, 1, 2, 3, 4, 5), command(129, 130, many(300))),
		"\x03\x03\x05\xc8\x01\x7f\x00\x00\x00\x02\x01\x02\x05\x01\x02\x03\x04\x05\x82\x01\x01\xac\x02"+many(300))
	checkEncode(t, appending(4, 7, 1, 8, 2, none(8, 1), command(9, 2, "a"), grouping(10, 3, 2, 4), none(11, 4)),
		"\x03\x03\x05\x04\x07\x01\x08\x02\x04\x01\x00\x02\x01\x01a\x03\x02\x02\x02\x04\x04\x00")
}

func TestEncodeAnswerByHand(t *testing.T) {
	checkEncode(t, answer(1, false, 0, 0), "\x04\x05\x03\x01\x00\x00\x00")
	checkEncode(t, answer(2, true, 3, 4), "\x04\x05\x03\x02\x01\x03\x04")
	checkEncode(t, answer(999999, true, 999999, 1<<30), "\x04\x05\x03\xbf\x84\x3d\x01\xbf\x84\x3d\x80\x80\x80\x80\x04")
	checkEncode(t, answer(1, false, 128, 1<<30-1), "\x04\x05\x03\x01\x00\x80\x01\xff\xff\xff\xff\x03")
}

func TestEncodeInstallByHand(t *testing.T) {
	checkEncode(t, install(1, 0, snapshot(1, 0, "", 1)), "\x05\x04\x01\x01\x01\x00\x01\x01\x00\x00")
	checkEncode(t, install(6, 9, snapshot(7, 6, "xyz", 2, 3, 5)), "\x05\x04\x01\x06\x07\x06\x03\x02\x03\x05\x03xyz\x09")
	checkEncode(t, install(999999, 1<<30, snapshot(999998, 999999, many(300), 1, 2, 3, 4, 5)),
		"\x05\x04\x01\xbf\x84\x3d\xbe\x84\x3d\xbf\x84\x3d\x05\x01\x02\x03\x04\x05\xac\x02"+many(300)+"\x80\x80\x80\x80\x04")
	checkEncode(t, install(1, 0, snapshot(1, 1, many(300000), 1)), "\x05\x04\x01\x01\x01\x01\x01\x01\xe0\xa7\x12"+many(300000)+"\x00")
}

// Letters up to all bounds are written field by field, and read again.
func TestEncodeOfRight(t *testing.T) {
	for _, m := range rightLetters() {
		checkEncode(t, m, string(written(fields(m))))
	}
}

// A list of none is none, be it nil or not.
func TestEncodeOfEmptyLists(t *testing.T) {
	for _, m := range []api.Letter{ask(1, 0, 0), vote(1, true), answer(1, true, 0, 0), appending(1, 0, 0, 0, 0)} {
		m.Entries, m.Snap.Nodes, m.Snap.Data = []api.Entry{}, []int{}, []byte{}
		checkEncode(t, m, string(written(fields(m))))
	}
	m := appending(1, 0, 0, 0, 0, none(1, 1), command(2, 1, "x"), grouping(3, 1, 2))
	m.Entries[0].Data, m.Entries[0].Nodes, m.Entries[1].Nodes, m.Entries[2].Data = []byte{}, []int{}, []int{}, []byte{}
	checkEncode(t, m, string(written(fields(m))))
	m = install(1, 0, api.Snap{Index: 1, Nodes: []int{1}})
	m.Entries = []api.Entry{}
	checkEncode(t, m, string(written(fields(m))))
}

// Two letters that are not alike are not written alike.
func TestEncodeTellsApart(t *testing.T) {
	seen := map[string]string{}
	draw := draws(1)
	for range 30000 {
		m := drawnLetter(draw)
		if !Right(m) {
			continue
		}
		b, err := Encode(m)
		if was, there := seen[string(b)]; err != api.OK || there && was != told(m) {
			t.Fatalf("%s and %s are written as %q, %v", was, told(m), b, err)
		}
		if !slices.Equal(b, written(fields(m))) {
			t.Fatalf("%s is written as %q", told(m), b)
		}
		seen[string(b)] = told(m)
	}
	if len(seen) < 2000 {
		t.Errorf("only %d were right", len(seen))
	}
}
