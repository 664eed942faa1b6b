package snap

import (
	"slices"
	"testing"

	"scriptorium/api"
	"scriptorium/docs"
)

// checkEncode: the store is written as these bytes, and read from them.
func checkEncode(t *testing.T, s api.Store, want string) {
	t.Helper()
	b, err := encode(t, s)
	if string(b) != want || err != api.OK {
		t.Errorf("Encode of\n%.300sis %.300q, %v, not %.300q", told(s), b, err, want)
	}
	got, fault := decode(t, []byte(want))
	if fault != nil || told(got) != told(s) {
		t.Errorf("Decode of %.300q is %v,\n%.300snot\n%.300s", want, fault, told(got), told(s))
	}
}

func TestEncodeExamples(t *testing.T) {
	checkEncode(t, api.Store{}, "\x53\x00\x00")
	checkEncode(t, api.Store{Tenants: []api.Tenant{}, Grants: []api.Grant{}}, "S\x00\x00")
}

func TestEncodeByHand(t *testing.T) {
	checkEncode(t, store(tenant("a")), "S\x01\x01a\x00\x00")
	checkEncode(t, store(tenant("a"), tenant("root")), "S\x02\x01a\x00\x04root\x00\x00")
	checkEncode(t, store(tenant("a", doc("d", 1, ""))), "S\x01\x01a\x01\x01d\x01\x01\x00\x00")
	checkEncode(t, store(tenant("a", doc("d", 300, "x", "", "yz"))), "S\x01\x01a\x01\x01d\xac\x02\x03\x01x\x00\x02yz\x00")
	checkEncode(t, store(tenant("a", doc("d", 999999, many(300)))), "S\x01\x01a\x01\x01d\xbf\x84\x3d\x01\xac\x02"+many(300)+"\x00")
	checkEncode(t, store(tenant("a", doc("d", 1, "\xff\x00"), doc("e", 2, "S"))), "S\x01\x01a\x02\x01d\x01\x01\x02\xff\x00\x01e\x02\x01\x01S\x00")
	s := store(tenant("a"), tenant("b", doc("d", 1, "x")))
	s.Grants = []api.Grant{give("a", "b/x", 1), give("b", "a/root", 3)}
	checkEncode(t, s, "S\x02\x01a\x00\x01b\x01\x01d\x01\x01\x01x\x02\x01a\x03b/x\x01\x01b\x06a/root\x03")
}

// TestEncodeOfRight: stores up to all limits are written field by field, and read again.
func TestEncodeOfRight(t *testing.T) {
	for _, s := range rightStores() {
		if !docs.Right(s) {
			t.Fatalf("this is not right: %.300s", told(s))
		}
		checkEncode(t, s, string(written(fields(s))))
	}
	if b, _ := Encode(full()); len(b) > api.MaxState {
		t.Errorf("the full store has %d bytes", len(b))
	}
}

func TestEncodeOfWrong(t *testing.T) {
	for _, s := range wrongStores() {
		if b, err := encode(t, s); len(b) != 0 || err != api.ErrArg {
			t.Errorf("Encode of\n%.300sis %.60q, %v", told(s), b, err)
		}
	}
}

// TestEncodeOfMany: each store that a row of commands leaves is written apart from all others, and read again.
func TestEncodeOfMany(t *testing.T) {
	seen := map[string]string{}
	s := api.Store{}
	for i, c := range commands() {
		s, _ = docs.Apply(s, c)
		b, err := encode(t, s)
		if was, there := seen[string(b)]; err != api.OK || there && was != told(s) {
			t.Fatalf("behind %d commands the store is written as %.60q, %v", i, b, err)
		}
		seen[string(b)] = told(s)
		if !slices.Equal(b, written(fields(s))) {
			t.Fatalf("behind %d commands the store is written as %.60q", i, b)
		}
		checkRead(t, b)
	}
	if len(seen) < 100 {
		t.Errorf("there were only %d stores", len(seen))
	}
}

// commands are a row that makes, puts, grants and deletes in turns.
func commands() []api.Command {
	var l []api.Command
	for i := range 300 {
		name := string(rune('a' + i*i%7))
		c := api.Command{Who: name + "/root", Tenant: name, Doc: string(rune('d' + i%5)), Version: -1, Text: many(i * 13 % 400)}
		c.Op, c.Target, c.Right = 1+i*7%11%4, string(rune('a'+i%9))+"/x", i%4
		l = append(l, c)
	}
	return l
}
