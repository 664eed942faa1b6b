package include

import (
	"regexp"
	"strconv"
	"testing"

	"scriptorium/api"
)

// directives is another reading of Scan.
var directives = regexp.MustCompile(`^[ \t]*\{\{include ([a-z][a-z0-9-]{0,15})/([a-z][a-z0-9-]{0,15})(?:@([1-9][0-9]{0,5}))?\}\}[ \t]*$`)

// otherScan tells what Scan should.
func otherScan(line string) (api.Ref, bool) {
	m := directives.FindStringSubmatch(line)
	if m == nil {
		return api.Ref{}, false
	}
	n, _ := strconv.Atoi(m[3])
	return ref(m[1], m[2], n), true
}

func ref(tenant, doc string, version int) api.Ref {
	return api.Ref{Tenant: tenant, Doc: doc, Version: version}
}

func checkScan(t *testing.T, line string, want api.Ref) {
	t.Helper()
	if got, ok := Scan(line); !ok || got != want {
		t.Errorf("Scan(%q) is %+v, %v, not %+v", line, got, ok, want)
	}
}

// checkNone: a line that is no directive, and of which nothing is told.
func checkNone(t *testing.T, line string) {
	t.Helper()
	if got, ok := Scan(line); ok || got != (api.Ref{}) {
		t.Errorf("Scan(%q) is %+v, %v", line, got, ok)
	}
}

func TestScanExamples(t *testing.T) {
	checkScan(t, "{{include a/y}}", ref("a", "y", 0))
	checkScan(t, " {{include a/x@1}}", ref("a", "x", 1))
	checkScan(t, "{{include b/z}}", ref("b", "z", 0))
	checkScan(t, "{{include a/q}}", ref("a", "q", 0))
	checkNone(t, "{{include a/y@03}}")
	checkNone(t, "{{include a/y }}")
}

func TestScanNames(t *testing.T) {
	long := many("a", 14) + "-9"
	checkScan(t, "{{include "+long+"/b}}", ref(long, "b", 0))
	checkScan(t, "{{include a/"+long+"}}", ref("a", long, 0))
	checkScan(t, "{{include "+long+"/"+long+"@999999}}", ref(long, long, 999999))
	checkScan(t, "{{include include/include}}", ref("include", "include", 0))
	checkScan(t, "{{include a-/b-@1}}", ref("a-", "b-", 1))
	checkNone(t, "{{include "+long+"0/b}}")
	checkNone(t, "{{include a/"+long+"0}}")
	checkNone(t, "{{include a/"+long+"0@1}}")
	for _, s := range []string{"", "A", "9", "-", "-a", "aB", "a b", " a", "a ", "a_", "a.b", "ä", "a\xff", "a\x00", "a{", "}", "a\tb", "a\nb", many("a", 17)} {
		checkNone(t, "{{include "+s+"/b}}")
		checkNone(t, "{{include "+s+"/b@1}}")
		checkNone(t, "{{include a/"+s+"}}")
		checkNone(t, "{{include a/"+s+"@1}}")
		checkNone(t, "{{include "+s+"/"+s+"}}")
	}
}

func TestScanVersions(t *testing.T) {
	for _, n := range []int{1, 2, 9, 10, 12, 90, 99, 100, 1000, 12345, 99999, 100000, 123456, 900000, 999998, 999999} {
		checkScan(t, "{{include a/b@"+strconv.Itoa(n)+"}}", ref("a", "b", n))
	}
	for _, s := range []string{
		"", "0", "00", "01", "03", "000001", "012345", "1000000", "0999999", "9999999", "10000000", "18446744073709551617", many("9", 1000),
		"-1", "+1", " 1", "1 ", "1 2", "1\t", "\t1", "1.", "1.0", "1_0", "1e3", "0x1", "a", "1a", "a1", "A", "@1", "1@", "1@2", "@", "/1", "1/2", "1}", "{1", "}", "\u0661", "1\u0661", "\xff", "1\xff", "1\x00", "1\n", ":", "1:", "/", "1/",
	} {
		checkNone(t, "{{include a/b@"+s+"}}")
	}
}

// TestScanGaps has blanks, tabs and others at both ends, and between all parts.
func TestScanGaps(t *testing.T) {
	gaps := []string{"", " ", "\t", "  ", "\t\t", " \t", "\t \t ", many(" ", 5000), many("\t ", 3)}
	for _, before := range gaps {
		for _, behind := range gaps {
			checkScan(t, before+"{{include a/b}}"+behind, ref("a", "b", 0))
			checkScan(t, before+"{{include a/b@7}}"+behind, ref("a", "b", 7))
			checkNone(t, before+behind)
			checkNone(t, before+"x {{include a/b}}"+behind)
			checkNone(t, before+"{{include a/b}} x"+behind)
		}
	}
	for _, c := range []string{"\n", "\r", "\r\n", "\v", "\f", "\u00a0", "\u2003", "\u3000", "\ufeff", "\x00", "\\", ">", "-", "\xa0", "\x85", "\xff"} {
		checkNone(t, c+"{{include a/b}}")
		checkNone(t, "{{include a/b}}"+c)
		checkNone(t, " "+c+" {{include a/b}}")
		checkNone(t, "{{include a/b}} "+c+" ")
	}
}

// TestScanParts leaves each part out, doubles it, and writes it otherwise.
func TestScanParts(t *testing.T) {
	parts := []string{"{", "{", "include", " ", "a", "/", "b", "@", "12", "}", "}"}
	others := []string{"", "{", "}", "Include", "INCLUDE", "includ", "included", " ", "  ", "\t", "\n", "/", "//", "\\", "@", "@@", "#", ":", ".", "(", "[", "ä", "\xff", "0", "x y"}
	for i, part := range parts {
		for _, other := range append(others, part, part+part) {
			line := ""
			for j, p := range parts {
				if i == j {
					p = other
				}
				line += p
			}
			want, ok := otherScan(line)
			if got, is := Scan(line); got != want || is != ok {
				t.Errorf("Scan(%q) is %+v, %v, not %+v, %v", line, got, is, want, ok)
			}
			// Without its @ the number is a part of the name.
			if other == "" && part != "@" {
				checkNone(t, line)
			}
		}
	}
	checkScan(t, "{{include a/b@12}}", ref("a", "b", 12))
	checkScan(t, "{{include a/b12}}", ref("a", "b12", 0))
}

func TestScanOtherwise(t *testing.T) {
	for _, line := range []string{
		"", "a", "{{", "}}", "{{}}", "{{include", "{{include}}", "{{include }}", "{{include  }}", "{{include /}}", "{{include a}}", "{{include a/}}", "{{include /b}}", "{{include a@1}}",
		"{{include a/b", "{{include a/b}", "{include a/b}", "{include a/b}}", "include a/b", "{{{include a/b}}}", "{{include a/b}}}", "{{include a/b}}}}", "{{{{include a/b}}}}",
		"{{ include a/b}}", "{{ include a/b }}", "{{include  a/b}}", "{{include\ta/b}}", "{{includea/b}}", "{{include a /b}}", "{{include a/ b}}", "{{include a/b @1}}", "{{include a/b@ 1}}", "{{include a/b@1 }}", "{{include a/b} }", "{ {include a/b}}",
		"{{Include a/b}}", "{{INCLUDE a/b}}", "{{includes a/b}}", "{{include a/b/c}}", "{{include a//b}}", "{{include /a/b}}", "{{include a/b/}}", "{{include a@1/b}}", "{{include a@1/b@1}}", "{{include a/b@@1}}", "{{include a\\b}}", "{{include a:b}}",
		"{{include a/b}} {{include a/b}}", "{{include a/b}}{{include a/b}}", "{{include {{include a/b}}}}", "{{include a/b}}\n{{include a/c}}", "{{include a/b}}x", "x{{include a/b}}", "> {{include a/b}}", "- {{include a/b}}", "`{{include a/b}}`", "<!--{{include a/b}}-->", "\\{{include a/b}}",
		"{{include a/b}}\n", "{{include a/b}}\r", "((include a/b))", "[[include a/b]]", "{{include \"a/b\"}}", "{{include a/b@latest}}",
	} {
		checkNone(t, line)
		checkNone(t, "  "+line+"\t")
	}
}

// TestScanOfEachByte puts each byte in at each place of a directive, and in the place of each of its bytes.
func TestScanOfEachByte(t *testing.T) {
	for _, line := range []string{" {{include a0/b-c@12}}\t", "{{include a/b}}"} {
		for at := range len(line) + 1 {
			for c := range 256 {
				put := line[:at] + string([]byte{byte(c)}) + line[at:]
				compareScan(t, put)
				if at < len(line) {
					compareScan(t, line[:at]+string([]byte{byte(c)})+line[at+1:])
				}
			}
			compareScan(t, line[:at])
			compareScan(t, line[at:])
		}
	}
}

// compareScan holds Scan against the other reading.
func compareScan(t *testing.T, line string) {
	t.Helper()
	want, ok := otherScan(line)
	if got, is := Scan(line); got != want || is != ok {
		t.Fatalf("Scan(%q) is %+v, %v, not %+v, %v", line, got, is, want, ok)
	}
}

func TestScanOfAllShortTexts(t *testing.T) {
	pieces := []string{"{{include ", "{", "}}", "}", "a", "/", "b-1", "@", "1", "0", " ", "\t"}
	eachText(pieces, 6, func(s string) { compareScan(t, s) })
	eachText(pieces, 5, func(s string) { compareScan(t, "{{include a/"+s+"}}") })
	eachText(pieces, 5, func(s string) { compareScan(t, "{{include "+s+"b@1}} ") })
}
