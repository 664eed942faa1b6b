package disk

import (
	"maps"
	"strings"
	"testing"

	"scriptorium/api"
)

// content is what each file has.
func content(d *Disk) map[string]string {
	all := map[string]string{}
	for _, name := range d.Files() {
		b, _ := d.Read(name)
		all[name] = string(b)
	}
	return all
}

// follow is what must stay behind a call that was answered so: what was synced, but for what was cut or removed, or whose name another file took.
func follow(stay, all map[string]string, c call, err api.Errno) {
	if err != api.OK {
		return
	}
	switch c.what {
	case "sync":
		stay[c.name] = all[c.name]
	case "cut":
		stay[c.name] = stay[c.name][:min(c.n, len(stay[c.name]))]
	case "rename":
		text := stay[c.name]
		delete(stay, c.name)
		stay[c.text] = text
	case "remove":
		delete(stay, c.name)
	}
}

// checkStays: each file that must stay is there, with what must stay of it ahead.
func checkStays(t *testing.T, all, stay map[string]string) {
	t.Helper()
	for name, text := range stay {
		if got, there := all[name]; !there || !strings.HasPrefix(got, text) {
			t.Fatalf("%q has %q (%v): %q was synced", name, got, there, text)
		}
	}
}

// checkBeginnings: behind a fall the same files are there, each with a beginning of what it had.
func checkBeginnings(t *testing.T, all, had map[string]string) {
	t.Helper()
	if len(all) != len(had) {
		t.Fatalf("behind a fall there is %q of %q", all, had)
	}
	for name, text := range had {
		if got, there := all[name]; !there || !strings.HasPrefix(text, got) {
			t.Fatalf("%q has %q (%v) of %q", name, got, there, text)
		}
	}
}

// Of rows of calls, each fall of which is followed by a start: what was synced stays, and behind a fall each file has a beginning of what it had.
func TestWhatFollows(t *testing.T) {
	for start := range 1000 {
		d := New(100)
		stay := map[string]string{}
		for _, c := range longRow(start, 150) {
			had := content(d)
			falls := d.Falls()
			follow(stay, had, c, do(d, c))
			if d.Falls() == falls {
				checkStays(t, content(d), stay)
				continue
			}
			if c.what == "append" {
				had[c.name] += c.text
			}
			d.Start()
			checkBeginnings(t, content(d), had)
			checkStays(t, content(d), stay)
			checkLasts(t, d)
		}
	}
}

// checkLasts: what is there behind a fall stays at the next one, whatever is kept.
func checkLasts(t *testing.T, d *Disk) {
	t.Helper()
	was := content(d)
	d.Crash(0)
	d.Start()
	if !maps.Equal(content(d), was) {
		t.Fatalf("a second fall left %q of %q", content(d), was)
	}
}
