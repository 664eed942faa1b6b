package docs

import (
	"math"
	"slices"
	"testing"

	"scriptorium/api"
)

func putting(doc string, version int, text string) api.Command {
	return api.Command{Op: api.OpPut, Who: "a/x", Tenant: "a", Doc: doc, Version: version, Text: text}
}

func TestPutOfExamples(t *testing.T) {
	none, once, twice := store(tenant("a")), store(tenant("a", doc("d", 1, "*1*"))), store(tenant("a", doc("d", 2, "*1*", "*1*")))
	checkApply(t, none, putting("d", 0, "*1*"), once, api.Answer{Version: 1})
	checkRefused(t, once, putting("d", 0, "*1*"), api.ErrCas)
	checkApply(t, once, putting("d", -1, "*1*"), twice, api.Answer{Version: 2})
}

// TestPutOfVersions: -1 and the last one alone are taken; of a document that is not there the last one is 0.
func TestPutOfVersions(t *testing.T) {
	for _, d := range []api.Doc{doc("d", 1, "1"), doc("d", 2, "1", "2"), doc("d", 7, "7"), doc("d", 9, texts(8, 3)...), doc("d", 999998, "x")} {
		s := store(tenant("a", d))
		for _, version := range []int{-1, 0, 1, 2, 3, 6, 7, 8, 9, 10, -2, -3, 999997, 999998, 999999, 1000000, math.MaxInt, math.MinInt, 1<<32 + d.Last} {
			if version != -1 && version != d.Last {
				checkRefused(t, s, putting("d", version, "new"), api.ErrCas)
				continue
			}
			kept := append(slices.Clone(d.Versions), api.Version{Number: d.Last + 1, Text: "new"})
			kept = kept[max(len(kept)-8, 0):]
			want := store(tenant("a", api.Doc{Name: "d", Last: d.Last + 1, Versions: kept}))
			checkApply(t, s, putting("d", version, "new"), want, api.Answer{Version: d.Last + 1})
		}
	}
	s := store(tenant("a", doc("d", 3, "3")))
	for _, version := range []int{-2, -1, 0, 1, 2, 3, 4, math.MaxInt, math.MinInt} {
		if version == 0 || version == -1 {
			checkApply(t, s, putting("e", version, "new"), store(tenant("a", doc("d", 3, "3"), doc("e", 1, "new"))), api.Answer{Version: 1})
		} else {
			checkRefused(t, s, putting("e", version, "new"), api.ErrCas)
		}
	}
}

// TestPutAtEachPlace: a new document stands where its name rises, and no other one changes.
func TestPutAtEachPlace(t *testing.T) {
	docs := func() []api.Doc { return []api.Doc{doc("b", 1, "b"), doc("d", 3, "2", "3"), doc("f", 9, "f")} }
	for name, at := range map[string]int{"a": 0, "b-": 1, "bb": 1, "c": 1, "d-": 2, "dd": 2, "e": 2, "f0": 3, "g": 3, "zzzzzzzzzzzzzzzz": 3} {
		want := slices.Insert(docs(), at, doc(name, 1, "new"))
		other := tenant("b", doc("d", 5, "other"))
		checkApply(t, store(tenant("a", docs()...), other), putting(name, 0, "new"), store(tenant("a", want...), other), api.Answer{Version: 1})
	}
	for at, name := range []string{"b", "d", "f"} {
		want := docs()
		want[at].Last++
		want[at].Versions = append(want[at].Versions, api.Version{Number: want[at].Last, Text: "new"})
		checkApply(t, store(tenant("a", docs()...)), putting(name, -1, "new"), store(tenant("a", want...)), api.Answer{Version: want[at].Last})
	}
}

// TestPutOfMoreThanAreKept: the oldest is gone, one by one.
func TestPutOfMoreThanAreKept(t *testing.T) {
	s := store(tenant("a"))
	var all []string
	for i := range 20 {
		text := many(i)
		all = append(all, text)
		kept := all[max(len(all)-8, 0):]
		want := store(tenant("a", doc("d", i+1, kept...)))
		checkApply(t, s, putting("d", i, text), want, api.Answer{Version: i + 1})
		s = want
	}
}

func TestPutOfManyDocs(t *testing.T) {
	for _, n := range []int{0, 6, 7, 8} {
		s := store(tenant("a", docsOf(n, 1)...), tenant("b", docsOf(8, 1)...))
		for _, version := range []int{0, -1} {
			if n == 8 {
				checkRefused(t, s, putting("new", version, "x"), api.ErrQuota)
				checkRefused(t, s, putting("new", version, ""), api.ErrQuota)
				continue
			}
			want := store(tenant("a", append(docsOf(n, 1), doc("new", 1, "x"))...), tenant("b", docsOf(8, 1)...))
			checkApply(t, s, putting("new", version, "x"), want, api.Answer{Version: 1})
		}
		for i, d := range docsOf(n, 1) {
			docs := docsOf(n, 1)
			docs[i] = doc(d.Name, 2, "m", "x")
			checkApply(t, s, putting(d.Name, 1, "x"), store(tenant("a", docs...), tenant("b", docsOf(8, 1)...)), api.Answer{Version: 2})
		}
	}
}

func TestPutAtTheLastNumber(t *testing.T) {
	for _, n := range []int{1, 7, 8} {
		s := store(tenant("a", doc("d", 999998, texts(n, 1)...)))
		want := store(tenant("a", doc("d", 999999, append(texts(min(n, 7), 1), "x")...)))
		checkApply(t, s, putting("d", 999998, "x"), want, api.Answer{Version: 999999})
		checkApply(t, s, putting("d", -1, "x"), want, api.Answer{Version: 999999})
		for _, version := range []int{-1, 999999} {
			checkRefused(t, want, putting("d", version, "x"), api.ErrMany)
			checkRefused(t, want, putting("d", version, ""), api.ErrMany)
		}
		checkRefused(t, want, putting("d", 999998, "x"), api.ErrCas)
		checkRefused(t, want, putting("d", 0, "x"), api.ErrCas)
	}
}

func TestPutOfLongTexts(t *testing.T) {
	s := store(tenant("a", doc("d", 1, "")))
	for _, n := range []int{0, 1, 4095, 4096} {
		checkApply(t, s, putting("d", 1, many(n)), store(tenant("a", doc("d", 2, "", many(n)))), api.Answer{Version: 2})
	}
	for _, n := range []int{4097, 4098, 8192, 32769, 100000} {
		for _, version := range []int{-1, 0, 1} {
			checkRefused(t, s, putting("d", version, many(n)), api.ErrLong)
			checkRefused(t, s, putting("new", version, many(n)), api.ErrLong)
		}
	}
	// Bytes are counted, not characters; and any bytes are a text.
	long := ""
	for range 2048 {
		long += "ä"
	}
	checkApply(t, s, putting("d", 1, long), store(tenant("a", doc("d", 2, "", long))), api.Answer{Version: 2})
	checkRefused(t, s, putting("d", 1, long+"x"), api.ErrLong)
	for _, text := range []string{"\x00", "\xff\xfe", "\n\r\t", "{{include a/d}}\n"} {
		checkApply(t, s, putting("d", 1, text), store(tenant("a", doc("d", 2, "", text))), api.Answer{Version: 2})
	}
}

// TestPutOfManyBytes: those of all texts count that are kept then, of this tenant alone.
func TestPutOfManyBytes(t *testing.T) {
	other := tenant("b", doc("d", 8, texts(8, 4096)...))
	at := func(docs ...api.Doc) api.Store { return store(tenant("a", docs...), other) }
	seven := doc("d", 7, texts(7, 4096)...)
	for _, n := range []int{0, 1, 95, 96} {
		s := at(seven, doc("e", 1, many(4000)))
		checkApply(t, s, putting("f", 0, many(n)), at(seven, doc("e", 1, many(4000)), doc("f", 1, many(n))), api.Answer{Version: 1})
		checkApply(t, s, putting("e", 1, many(n)), at(seven, doc("e", 2, many(4000), many(n))), api.Answer{Version: 2})
		checkApply(t, s, putting("d", 7, many(n)), at(doc("d", 8, append(texts(7, 4096), many(n))...), doc("e", 1, many(4000))), api.Answer{Version: 8})
	}
	for _, n := range []int{97, 98, 4096} {
		s := at(seven, doc("e", 1, many(4000)))
		for _, c := range []api.Command{putting("f", 0, many(n)), putting("f", -1, many(n)), putting("e", 1, many(n)), putting("e", -1, many(n)), putting("d", 7, many(n))} {
			checkRefused(t, s, c, api.ErrQuota)
		}
	}
}

// TestPutWhereTheOldestMakesRoom: what is gone does not count.
func TestPutWhereTheOldestMakesRoom(t *testing.T) {
	full := store(tenant("a", doc("d", 8, texts(8, 4096)...)))
	for _, n := range []int{0, 1, 4095, 4096} {
		checkApply(t, full, putting("d", 8, many(n)), store(tenant("a", doc("d", 9, append(texts(7, 4096), many(n))...))), api.Answer{Version: 9})
	}
	checkApply(t, full, putting("e", 0, ""), store(tenant("a", doc("d", 8, texts(8, 4096)...), doc("e", 1, ""))), api.Answer{Version: 1})
	checkRefused(t, full, putting("e", 0, "x"), api.ErrQuota)
	small := append([]string{many(100)}, texts(7, 4096)...)
	s := store(tenant("a", doc("d", 8, small...), doc("e", 1, many(3996))))
	for _, n := range []int{99, 100} {
		checkApply(t, s, putting("d", -1, many(n)), store(tenant("a", doc("d", 9, append(texts(7, 4096), many(n))...), doc("e", 1, many(3996)))), api.Answer{Version: 9})
	}
	for _, n := range []int{101, 4096} {
		checkRefused(t, s, putting("d", -1, many(n)), api.ErrQuota)
	}
	checkRefused(t, s, putting("e", -1, "x"), api.ErrQuota)
}

// TestPutErrorsInOrder: the first that applies is told.
func TestPutErrorsInOrder(t *testing.T) {
	docs := append(docsOf(7, 4096), doc("last", 999999, many(4096)))
	s := store(tenant("a", docs...))
	denied := putting("new", 7, many(4097))
	denied.Who = "b/x"
	checkRefused(t, s, denied, api.ErrDeny)
	checkRefused(t, s, putting("new", 7, many(4097)), api.ErrLong)
	checkRefused(t, s, putting("new", 7, many(4096)), api.ErrCas)
	checkRefused(t, s, putting("new", 0, many(4096)), api.ErrQuota)
	checkRefused(t, s, putting("last", 7, many(4097)), api.ErrLong)
	checkRefused(t, s, putting("last", 7, many(4096)), api.ErrCas)
	checkRefused(t, s, putting("last", 999999, many(4096)), api.ErrMany)
	checkRefused(t, s, putting("d00", 7, many(4096)), api.ErrCas)
	checkRefused(t, s, putting("d00", 1, many(4096)), api.ErrQuota)
	checkRefused(t, s, putting("d00", 1, "x"), api.ErrQuota)
	checkApply(t, s, putting("d00", 1, ""), store(tenant("a", append([]api.Doc{doc("d00", 2, many(4096), "")}, docs[1:]...)...)), api.Answer{Version: 2})
}
