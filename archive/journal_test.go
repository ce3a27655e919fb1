package archive_test

import (
	"math"
	"slices"
	"strconv"
	"strings"
	"testing"

	"ductility/api"
	"ductility/archive"
)

// sumByHand returns the sum of a string, from its end: each byte plus 1 times a power.
func sumByHand(s string) int {
	sum, power := 0, 1
	for i := len(s) - 1; i >= 0; i-- {
		sum = (sum + (int(s[i])+1)*power) % 999961
		power = power * 211 % 999961
	}
	return sum
}

// P10.3, example 1
func TestSumOf(t *testing.T) {
	for s, want := range map[string]int{"": 0, "a": 98, "ab": 20777, "\x00": 1, "\x00\x00": 212, "\xff": 256, "abc": (20777*211 + 100) % 999961} {
		sum, e := archive.SumOf(s)
		mustBe(t, s, sum, e, want, api.OK)
	}
	for _, s := range []string{"no crack", "\n", "\u00e9", strings.Repeat("\xff", 200), strings.Repeat("zebra", 40)} {
		sum, e := archive.SumOf(s)
		mustBe(t, s, sum, e, sumByHand(s), api.OK)
	}
	for _, s := range []string{strings.Repeat("a", 201), strings.Repeat("\x00", 201), strings.Repeat("a", 1000000)} {
		sum, e := archive.SumOf(s)
		mustFail(t, len(s), sum, e, api.ErrLarge)
	}
}

// P10.4, example 5: entries are formatted whatever they are.
func TestFormatEntry(t *testing.T) {
	for _, y := range []struct {
		x    api.ArchiveEntry
		want string
	}{
		{exampleLog()[0], "1 ann specimen wall 5"},
		{api.ArchiveEntry{}, "0  "},
		{api.ArchiveEntry{At: -7, By: "a b", Text: "\n"}, "-7 a b \n"},
		{api.ArchiveEntry{At: math.MaxInt, By: "?", Text: " x "}, "9223372036854775807 ?  x "},
		{api.ArchiveEntry{At: math.MinInt, Text: strings.Repeat("x", 500)}, "-9223372036854775808  " + strings.Repeat("x", 500)},
	} {
		mustStay(t, "string", archive.FormatEntry(y.x), y.want)
	}
}

// P10.4
func TestParseEntry(t *testing.T) {
	long := strings.Repeat("x", 240-4)
	for s, want := range map[string]api.ArchiveEntry{
		"1 ann specimen wall 5":     {At: 1, By: "ann", Text: "specimen wall 5"},
		"0 b ":                      {By: "b"},
		"0 b  ":                     {By: "b", Text: " "},
		"7 ?\t  a  b ":              {At: 7, By: "?\t", Text: " a  b "},
		"1000000000000 \xff \x00\r": {At: api.MaxTick, By: "\xff", Text: "\x00\r"},
		"0 b " + long:               {By: "b", Text: long},
		"0 " + long + "b ":          {By: long + "b"},
	} {
		x, e := archive.ParseEntry(s)
		mustBe(t, s, x, e, want, api.OK)
	}
	for want, l := range map[api.Errno][]string{
		api.ErrLarge: {"0 bb " + long, strings.Repeat("x", 241), strings.Repeat("\n", 241), strings.Repeat(" ", 1000000)},
		api.ErrSyntax: {
			"", " ", "  ", "   ", "1", "1 ", "1 ann", " ann note", "1  note", "1  ", "1   note", " 1 ann note", "x ann note", "-1 ann note", "-0 ann note", "+1 ann note", "00 ann note", "01 ann note",
			"1.0 ann note", "1x ann note", "\u0661 ann note", "\t1 ann note", "1 ann note\n", "1 ann \n", "1 a\nnn note", "1\n ann note", "\n1 ann note", "10000000000000 ann note", "99999999999999 ann note",
			"00000000000000 ann note", "9999999999999  note", "9999999999999 ann", "9999999999999 ann note\n", "99999999999999999999999999 ann note", strings.Repeat("x", 240), strings.Repeat(" ", 240),
		},
		api.ErrRange: {"1000000000001 ann note", "9999999999999 ann note", "9999999999999 b "},
	} {
		for _, s := range l {
			x, e := archive.ParseEntry(s)
			mustFail(t, s, x, e, want)
		}
	}
}

// journalByHand returns the journal of entries.
func journalByHand(l []api.ArchiveEntry) string {
	journal, before := "", ""
	for _, x := range l {
		s := strconv.Itoa(x.At) + " " + x.By + " " + x.Text
		before = s + " " + strconv.Itoa(sumByHand(before+s))
		journal += before + "\n"
	}
	return journal
}

// P10.4
func TestJournalOf(t *testing.T) {
	first := "1 ann specimen wall 5 " + strconv.Itoa(sumByHand("1 ann specimen wall 5"))
	second := "2 bob put wall 0 " + strconv.Itoa(sumByHand(first+"2 bob put wall 0"))
	journal, e := archive.JournalOf(exampleLog()[:2])
	mustBe(t, "two lines", journal, e, first+"\n"+second+"\n", api.OK)
	// The entries of a journal need not make a log.
	strange := []api.ArchiveEntry{{At: 9, By: "?", Text: " so  "}, {At: 0, By: "b"}, {At: api.MaxTick, By: "\x00", Text: strings.Repeat("x", 224)}}
	for _, l := range [][]api.ArchiveEntry{nil, {}, exampleLog(), doneLog(), notes(30), strange} {
		journal, e := archive.JournalOf(l)
		mustBe(t, l, journal, e, journalByHand(l), api.OK)
	}
	for _, l := range [][]api.ArchiveEntry{notes(31), make([]api.ArchiveEntry, 31), make([]api.ArchiveEntry, 1000000)} {
		journal, e := archive.JournalOf(l)
		mustFail(t, len(l), journal, e, api.ErrLarge)
	}
	for _, x := range []api.ArchiveEntry{
		{}, {At: -1, By: "ann", Text: "note "}, {At: math.MinInt, By: "ann"}, {At: api.MaxTick + 1, By: "ann", Text: "note "}, {At: math.MaxInt, By: "ann"},
		{At: 1, Text: "note "}, {At: 1, Text: " note"}, {At: 1, By: " ", Text: "note "}, {At: 1, By: "a b", Text: "note "}, {At: 1, By: "ann ", Text: "note "}, {At: 1, By: " ann", Text: "note "},
		{At: 1, By: "ann", Text: "note\n"}, {At: 1, By: "ann\n", Text: "note "}, {At: 1, By: "\n", Text: "note "}, {At: 1, By: "ann", Text: strings.Repeat("x", 235)}, {At: 1, By: strings.Repeat("x", 238)},
		{At: 1, By: "ann", Text: strings.Repeat("x", 1000000)},
	} {
		for _, before := range []int{0, 29} {
			journal, e := archive.JournalOf(append(notes(before), x))
			mustFail(t, x, journal, e, api.ErrForm)
		}
	}
}

// mustRecover reports a journal that is not recovered as so many bytes of a log.
func mustRecover(t *testing.T, name any, n api.ArchiveNet, journal string, want []api.ArchiveEntry, wantCount int) {
	t.Helper()
	l, count, e := archive.Recovered(n, journal)
	mustBe(t, name, l, e, want, api.OK)
	mustBe(t, name, count, e, wantCount, api.OK)
}

// P10.4, P10.9 and edge cases: a journal that is cut at any byte.
func TestRecoveredFromCuts(t *testing.T) {
	for _, l := range [][]api.ArchiveEntry{nil, exampleLog(), longer(doneLog(), "9 zoe note ", "9 zoe open wall a", "9 zoe note  two  ")} {
		mustHold(t, exampleNet(), l)
		journal := journalByHand(l)
		for cut := range len(journal) + 1 {
			lines := strings.Count(journal[:cut], "\n")
			mustRecover(t, cut, exampleNet(), journal[:cut], l[:lines], strings.LastIndex(journal[:cut], "\n")+1)
		}
	}
}

// P10.9: a byte that is another one ends what is recovered at its line.
func TestRecoveredFromChanges(t *testing.T) {
	l := longer(doneLog(), "9 zoe note ")
	journal := journalByHand(l)
	for at := range len(journal) {
		for _, c := range []byte{' ', '0', '1', '9', 'a', '\n', 0} {
			if journal[at] == c {
				continue
			}
			line := strings.Count(journal[:at], "\n")
			mustRecover(t, at, exampleNet(), journal[:at]+string(c)+journal[at+1:], l[:line], strings.LastIndex(journal[:at], "\n")+1)
		}
	}
}

// P10.4: what is no line, or not of a log, ends what is recovered.
func TestRecovered(t *testing.T) {
	l := exampleLog()
	journal := journalByHand(l)
	for _, tail := range []string{
		"", "\n", " \n", "  \n", "\n\n", "x", "x\n", "1\n", "98\n", " 0\n", "  0\n", "   0\n", "5 bob\n", "5 bob note so\n", "5 bob note so 0\n", journal, "\r\n", "\x00", strings.Repeat(" ", 1000) + "\n", strings.Repeat("\n", 1000),
	} {
		mustRecover(t, tail, exampleNet(), journal+tail, l, len(journal))
		if tail != journal {
			mustRecover(t, tail, exampleNet(), tail+journal[:0], nil, 0)
		}
	}
	for _, further := range []string{"5 kim note ", "4 zoe note ", "5 zoe end", "5 bob end", "5 bob ends", "5 bob note", "1000000000001 bob note ", "5 ann specimen wall 5", "5 bob note " + strings.Repeat("x", 196)} {
		// Behind an entry with an error nothing counts, even if it would be possible.
		mustRecover(t, further, exampleNet(), journalByHand(longer(l, further, "5 bob note so")), l, len(journal))
	}
	for _, further := range []string{"5 bob note ", "5 bob note " + strings.Repeat("x", 195), "1000000000000 zoe note  so ", "6 bob begin wall 1 " + small} {
		both := longer(l, further)
		mustRecover(t, further, exampleNet(), journalByHand(both), both, len(journalByHand(both)))
	}
	mustRecover(t, "31 notes", exampleNet(), journalByHand(notes(31)), notes(30), len(journalByHand(notes(30))))
	// A journal that begins in the middle has other sums.
	mustRecover(t, "second line", exampleNet(), journalByHand(notes(2))[len(journalByHand(notes(1))):], nil, 0)
	// Numbers have no leading zeros, and sums are those of the line before with its own sum.
	mustRecover(t, "zero", exampleNet(), strings.Replace(journalByHand(notes(1)), "so ", "so 0", 1), nil, 0)
	first := strings.TrimSuffix(journalByHand(notes(1)), "\n")
	for _, before := range []string{"", "1 bob note so", first + "\n"} {
		other := first + "\n1 bob note so " + strconv.Itoa(sumByHand(before+"1 bob note so")) + "\n"
		mustRecover(t, before, exampleNet(), other, notes(1), len(first)+1)
	}
	for _, size := range []int{api.MaxString + 1, 1000000} {
		all, count, e := archive.Recovered(exampleNet(), journal+strings.Repeat("\n", size-len(journal)))
		mustFail(t, size, all, e, api.ErrLarge)
		mustFail(t, size, count, e, api.ErrLarge)
	}
	mustRecover(t, "as long as permitted", exampleNet(), journal+strings.Repeat("\n", api.MaxString-len(journal)), l, len(journal))
}

// P10.4, P10.10 and edge case
func TestMerged(t *testing.T) {
	l := exampleLog()
	for _, y := range []struct {
		name       string
		a, b, want []api.ArchiveEntry
	}{
		{"nothing", nil, nil, nil},
		{"the first one alone", l, nil, l},
		{"the second one alone", nil, l, l},
		{"itself", l, l, l},
		{"a beginning behind", l, l[:3], l},
		{"a beginning before", l[:3], l, l},
		{"an entry twice", notes(2), notes(3), notes(3)},
		{"no common beginning", notes(2), entries("1 zoe note so", "1 bob note so"), longer(notes(2), "1 zoe note so", "1 bob note so")},
		{"two ends", longer(l, "6 zoe note a"), longer(l, "6 bob note b", "7 zoe note a"), longer(l, "6 zoe note a", "6 bob note b", "7 zoe note a")},
		{"what was before is left out", longer(l, "7 zoe note a"), longer(l, "6 bob note b", "7 bob note c"), longer(l, "7 zoe note a", "7 bob note c")},
		{
			"what is done already is left out, and so is what needs it", longer(l[:1], "2 bob put wall 1"), longer(l[:1], "2 bob put wall 0", "3 bob clear wall", "3 bob clear wall")[:3],
			longer(l[:1], "2 bob put wall 1", "3 bob clear wall"),
		},
		{
			"one run alone is open", longer(l, "6 bob begin wall 1 "+small), longer(l, "6 bob begin wall 1 "+great, "7 bob record acc 1", "7 bob decay "+early, "7 bob end", "8 zoe open wall a"),
			longer(l, "6 bob begin wall 1 "+small, "7 bob record acc 1", "7 bob decay "+early, "7 bob end", "8 zoe open wall a"),
		},
		{"full", notes(29), entries("1 zoe note a", "1 zoe note b"), longer(notes(29), "1 zoe note a")},
		{"full at once", notes(30), l, notes(30)},
	} {
		mustHold(t, exampleNet(), y.a)
		mustHold(t, exampleNet(), y.b)
		merged, e := archive.Merged(exampleNet(), y.a, y.b)
		mustBe(t, y.name, merged, e, y.want, api.OK)
		mustHold(t, exampleNet(), merged)
	}
}

// P10.9 and P10.10 for many logs
func TestJournalsOfLogs(t *testing.T) {
	logs := someLogs(200)
	for i, l := range logs {
		journal, e := archive.JournalOf(l)
		mustBe(t, l, journal, e, journalByHand(l), api.OK)
		mustRecover(t, l, wideNet(), journal, l, len(journal))
		for _, cut := range []int{len(journal) / 3, len(journal) / 2, max(len(journal)-1, 0)} {
			part, count, e := archive.Recovered(wideNet(), journal[:cut])
			again, partError := archive.JournalOf(part)
			mustBe(t, cut, part, e, l[:len(part)], api.OK)
			mustBe(t, cut, again, partError, journal[:count], api.OK)
			if strings.Contains(journal[count:cut], "\n") {
				t.Error("more was whole", l, cut)
			}
		}
		for _, beginning := range [][]api.ArchiveEntry{l, l[:len(l)/2], nil} {
			merged, e := archive.Merged(wideNet(), l, beginning)
			mustBe(t, l, merged, e, l, api.OK)
		}
		other := logs[(i+1)%len(logs)]
		merged, e := archive.Merged(wideNet(), l, other)
		mustBe(t, l, merged, e, mergedByHand(l, other), api.OK)
		mustHold(t, wideNet(), merged)
	}
}

// mergedByHand returns two logs of the wide net, merged.
func mergedByHand(a, b []api.ArchiveEntry) []api.ArchiveEntry {
	merged := slices.Clone(a)
	areCommon := true
	for i, x := range b {
		areCommon = areCommon && i < len(a) && a[i] == x
		if areCommon {
			continue
		}
		if archive.MayAppend(wideNet(), merged, x) == api.OK {
			merged = append(merged, x)
		}
	}
	return merged
}
