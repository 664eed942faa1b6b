package wire

import (
	"errors"
	"slices"
	"testing"

	"scriptorium/api"
)

// checkFault: Decode tells nothing but a *api.Fault of ErrCode at this place.
func checkFault(t *testing.T, b []byte, at int) {
	t.Helper()
	m, err := decode(t, b)
	if told(m) != told(api.Letter{}) {
		t.Errorf("Decode(%.60q) tells %.300s", b, told(m))
	}
	f, ok := err.(*api.Fault)
	if !ok || f == nil {
		t.Fatalf("Decode(%.60q) tells %#v, not a fault at %d", b, err, at)
	}
	if *f != (api.Fault{At: at, Err: api.ErrCode}) || !errors.Is(err, api.ErrCode) {
		t.Errorf("Decode(%.60q), of %d bytes, tells %+v, not a fault at %d", b, len(b), *f, at)
	}
}

// checkRead holds Decode against another reading; what it takes is written as the same bytes. It tells whether it takes b.
func checkRead(t *testing.T, b []byte) bool {
	t.Helper()
	want, at := otherDecode(b)
	if at != fine {
		checkFault(t, b, at)
		return false
	}
	m, err := decode(t, b)
	if err != nil || told(m) != told(want) {
		t.Errorf("Decode(%.60q) is %v, %.300s, not %.300s", b, err, told(m), told(want))
	}
	if again, e := encode(t, m); e != api.OK || !slices.Equal(again, b) {
		t.Errorf("what Decode(%.60q) takes is written as %.60q, %v", b, again, e)
	}
	return true
}

func TestDecodeExamples(t *testing.T) {
	checkFault(t, []byte{2, 1, 2, 3}, 4)
	checkFault(t, []byte{2, 1, 1, 3, 1}, 0)
	checkFault(t, []byte{2, 9}, 1)
	checkFault(t, []byte{2, 1, 2, 3, 1, 0}, 5)
	m, err := decode(t, []byte{2, 1, 2, 3, 1})
	if err != nil || told(m) != told(api.Letter{Kind: api.LVote, From: 1, To: 2, Term: 3, Ok: true}) {
		t.Errorf("Decode of 2 1 2 3 1 is %v, %s", err, told(m))
	}
}

func TestDecodeHeadByHand(t *testing.T) {
	for b, at := range map[string]int{
		"": 0, "\x06": 0, "\x07\x01\x02\x03": 0, "\x80": 0, "\x81\x00": 0, "\x85\x02\x01\x02\x03": 0, "\xff": 0,
		"\x02": 1, "\x02\x06": 1, "\x02\x09\x09": 1, "\x02\x81\x00": 1, "\x02\x05": 2, "\x02\x01": 2, "\x02\x01\x06": 2, "\x02\x01\x80\x00\x03\x01": 2,
		"\x02\x01\x02": 3, "\x02\x01\x05\xc0\x84\x3d\x01": 3, "\x02\x01\x05\xbf\x84\x3d": 6, "\x02\x01\x05\xbf\x84": 3, "\x02\x01\x05\xbf\x84\x00\x01": 3,
		"\x02\x01\x02\x03\x02": 4, "\x02\x01\x02\x03\x80\x00": 4, "\x02\x01\x02\x03\x81": 4, "\x02\x01\x02\x03\x00\x00": 5, "\x02\x01\x02\x03\x01\xff": 5,
		"\x02\x00\x02\x03\x01": 0, "\x02\x01\x00\x03\x01": 0, "\x02\x01\x02\x00\x01": 0, "\x02\x02\x02\x03\x00": 0, "\x02\x00\x00\x00\x00": 0, "\x02\x05\x05\xbf\x84\x3d\x00": 0,
	} {
		checkFault(t, []byte(b), at)
	}
}

// Behind the Kind 0 what each Kind has is still read; and nothing of what may stand behind that.
func TestDecodeOfKindNought(t *testing.T) {
	for b, at := range map[string]int{
		"\x00": 1, "\x00\x09": 1, "\x00\x06\x02\x03": 1, "\x00\x01": 2, "\x00\x01\x06": 2, "\x00\x01\x02": 3, "\x00\x01\x02\xc0\x84\x3d": 3, "\x00\x01\x02\x80": 3,
		"\x00\x01\x02\x03": 0, "\x00\x01\x02\x03\x01": 0, "\x00\x01\x02\x03\xff\xff": 0, "\x00\x00\x00\x00": 0, "\x00\x01\x01\x00\x00": 0,
	} {
		checkFault(t, []byte(b), at)
	}
}

func TestDecodeAskAndAnswerByHand(t *testing.T) {
	for b, at := range map[string]int{
		"\x01\x01\x02\x07": 4, "\x01\x01\x02\x07\xc0\x84\x3d\x00": 4, "\x01\x01\x02\x07\xbf\x84\x3d": 7, "\x01\x01\x02\x07\x00\xc0\x84\x3d": 5, "\x01\x01\x02\x07\x00\x80": 5,
		"\x01\x01\x02\x07\x05\x06\x00": 6, "\x01\x01\x02\x07\x05\x08": 0, "\x01\x01\x02\x07\x05\xbf\x84\x3d": 0, "\x01\x01\x02\x07\x05\x08\x00": 6, "\x01\x01\x02\x00\x05\x00": 0,
		"\x04\x01\x02\x07": 4, "\x04\x01\x02\x07\x02\x00\x00": 4, "\x04\x01\x02\x07\x01": 5, "\x04\x01\x02\x07\x01\xc0\x84\x3d\x00": 5, "\x04\x01\x02\x07\x01\xbf\x84\x3d": 8,
		"\x04\x01\x02\x07\x01\x00\x81\x80\x80\x80\x04": 6, "\x04\x01\x02\x07\x01\x00\x80\x80\x80\x80\x04\x00": 11, "\x04\x01\x02\x07\x01\x00\x80\x80\x80\x80\x14": 6,
		"\x04\x02\x02\x07\x01\x00\x80\x80\x80\x80\x04": 0, "\x04\x01\x02\x00\x01\x00\x00": 0,
	} {
		checkFault(t, []byte(b), at)
	}
}

func TestDecodeAppendByHand(t *testing.T) {
	head := "\x03\x01\x02\x07"
	to := head + "\x05\x02\x00\x00"
	for b, at := range map[string]int{
		head: 4, head + "\xc0\x84\x3d": 4, head + "\x05\xc0\x84\x3d": 5, head + "\x05\x02\xc0\x84\x3d": 6, head + "\x05\x02\x00\x81\x80\x80\x80\x04": 7,
		head + "\xbf\x84\x3d\xbf\x84\x3d\xbf\x84\x3d\x80\x80\x80\x80\x04": 18, head + "\x05\x08\x00\x00\x00": 0,
		to: 8, to + "\x05": 8, to + "\x80\x00": 8, to + "\x00\x00": 9, to + "\x01": 9, to + "\x01\xc0\x84\x3d\x00": 9, to + "\x01\xbf\x84\x3d": 12,
		to + "\x01\x03": 10, to + "\x01\x03\x03": 10, to + "\x01\x03\x80\x00": 10, to + "\x01\x03\x00\x00": 11, to + "\x01\x03\x01": 11, to + "\x01\x03\x01\x01": 11, to + "\x01\x03\x01\x03ab": 11,
		to + "\x01\x03\x01\xc1\x3e" + many(8001): 11, to + "\x01\x03\x01\xc0\x3e" + many(7999): 11, to + "\x01\x03\x01\xc0\x3e" + many(8000) + "\x00": 8013, to + "\x01\x03\x01\x00\x00": 12,
		to + "\x01\x03\x02": 11, to + "\x01\x03\x02\x06": 11, to + "\x01\x03\x02\x01": 12, to + "\x01\x03\x02\x01\x06": 12, to + "\x01\x03\x02\x05\x01\x02\x03\x04": 16, to + "\x01\x03\x02\x02\x01\x02\x00": 14,
		to + "\x02\x03\x00": 11, to + "\x02\x03\x00\x04": 12, to + "\x02\x03\x01\x01x\x04\x03": 14, to + "\x02\x03\x01\x01x\x04\x02\x01": 16, to + "\x04\x03\x00\x03\x00\x03\x00\x03": 16, to + "\x04\x03\x00\x03\x00\x03\x00\x03\x00\x03\x00": 17,
		to + "\x01\x00\x00": 0, to + "\x01\x01\x00": 0, to + "\x01\x08\x00": 0, to + "\x02\x03\x00\x02\x00": 0, to + "\x02\x03\x00\x08\x00": 0, to + "\x01\xbf\x84\x3d\x00": 0,
		to + "\x01\x03\x02\x00": 0, to + "\x01\x03\x02\x01\x00": 0, to + "\x01\x03\x02\x02\x02\x01": 0, to + "\x01\x03\x02\x02\x01\x01": 0, to + "\x01\x03\x02\x02\x01\x01\x00": 14,
	} {
		checkFault(t, []byte(b), at)
	}
}

func TestDecodeInstallByHand(t *testing.T) {
	head := "\x05\x01\x02\x07"
	to := head + "\x09\x07\x02\x01\x02"
	for b, at := range map[string]int{
		head: 4, head + "\xc0\x84\x3d": 4, head + "\xbf\x84\x3d": 7, head + "\x09": 5, head + "\x09\xc0\x84\x3d": 5, head + "\x09\x07": 6, head + "\x09\x07\x06": 6, head + "\x09\x07\x02\x01": 8, head + "\x09\x07\x02\x01\x06": 8,
		to: 9, to + "\x01": 9, to + "\x80\x00": 9, to + "\xe1\xa7\x12" + many(300001): 9, to + "\xe0\xa7\x12" + many(299999): 9, to + "\xe0\xa7\x12" + many(300000): 300012,
		to + "\x01x": 11, to + "\x01x\x81\x80\x80\x80\x04": 11, to + "\x01x\x80\x80\x80\x80\x04\x00": 16, to + "\x01x\x00\x00": 12,
		head + "\xbf\x84\x3d\x07\x01\x01\x00\x00": 0, head + "\x00\x07\x01\x01\x00\x00": 0, head + "\x00\x00\x00\x00\x00": 0, head + "\x09\x08\x01\x01\x00\x00": 0, head + "\x09\xbf\x84\x3d\x01\x01\x00\x00": 0,
		head + "\x09\x07\x00\x00\x00": 0, head + "\x09\x07\x01\x00\x00\x00": 0, head + "\x09\x07\x02\x02\x01\x00\x00": 0, head + "\x09\x07\x02\x01\x01\x00\x00": 0, head + "\x09\x07\x02\x01\x01\x00\x00\x00": 11,
	} {
		checkFault(t, []byte(b), at)
	}
}

// All could be read, but what was read is not right; what stands behind it all is told ahead of that.
func TestDecodeOfWrong(t *testing.T) {
	var l []api.Letter
	for _, m := range wrongAppends() {
		l = append(l, m)
	}
	draw := draws(7)
	for range 20000 {
		l = append(l, drawnLetter(draw))
	}
	wrong := 0
	for _, m := range l {
		b := written(fields(m))
		if _, bad, passed := otherRead(b); bad != fine || m.Kind == 0 || passed < len(b) {
			continue
		}
		got, err := Decode(b)
		if err == nil && told(got) == told(m) != Right(m) {
			t.Errorf("what is not right was read: %.300s", told(m))
		}
		if err != nil {
			wrong++
			checkFault(t, b, 0)
			checkFault(t, append(slices.Clone(b), 0), len(b))
			checkFault(t, append(slices.Clone(b), b...), len(b))
		}
	}
	if wrong < 500 {
		t.Errorf("only %d were not right", wrong)
	}
}

func TestDecodeOfBytesBehind(t *testing.T) {
	for _, m := range rightLetters() {
		b, _ := Encode(m)
		for _, behind := range []string{"\x00", "\x01", "\xff", "\x80\x00", string(b), many(100)} {
			checkFault(t, append(slices.Clone(b), behind...), len(b))
		}
	}
}

// No strict beginning of an Encode is one; the place is where the field begins that is cut off.
func TestDecodeOfBeginnings(t *testing.T) {
	for _, m := range rightLetters() {
		l := fields(m)
		b := written(l)
		step := 1 + len(b)/2000
		for i, f := range l {
			at := len(written(l[:i]))
			for n := 0; n < len(f.bytes()); n += step {
				checkFault(t, b[:at+n], at)
			}
			checkFault(t, b[:at+len(f.bytes())-1], at)
		}
	}
}
