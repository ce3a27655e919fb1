package archive

import (
	"iter"
	"strconv"
	"strings"

	"ductility/api"
)

// mostExtra is by how many bytes the string of an entry may be longer than its text.
const mostExtra = 40

// lineFeed ends a line.
const lineFeed = "\n"

// sumOf returns the sum of a string.
func sumOf(s string) int {
	sum := 0
	for _, c := range []byte(s) {
		sum = (sum*api.ArchiveFactor + int(c) + 1) % api.ArchivePrime
	}
	return sum
}

// SumOf returns the sum of a string.
func SumOf(s string) (int, api.Errno) {
	if len(s) > api.MaxArchiveText {
		return 0, api.ErrLarge
	}
	return sumOf(s), api.OK
}

// FormatEntry returns the string of an entry.
func FormatEntry(e api.ArchiveEntry) string {
	return strconv.Itoa(e.At) + " " + e.By + " " + e.Text
}

// ParseEntry returns the entry of a string.
func ParseEntry(s string) (api.ArchiveEntry, api.Errno) {
	if len(s) > api.MaxArchiveText+mostExtra {
		return api.ArchiveEntry{}, api.ErrLarge
	}
	// Without a first blank there is no second one either.
	first, left, _ := strings.Cut(s, " ")
	by, text, isWhole := strings.Cut(left, " ")
	at, e := numberOf(first, tickDigits)
	e = firstOf(
		when(!isWhole || by == "" || strings.Contains(s, lineFeed), api.ErrSyntax),
		e,
		when(at > api.MaxTick, api.ErrRange))
	if e != api.OK {
		return api.ArchiveEntry{}, e
	}
	return api.ArchiveEntry{At: at, By: by, Text: text}, api.OK
}

// lineOf returns the line of an entry, without its line feed, behind the line before.
func lineOf(before string, e api.ArchiveEntry) string {
	s := FormatEntry(e)
	return s + " " + strconv.Itoa(sumOf(before+s))
}

// entryOf returns the entry of a line, without its line feed, behind the line before, and whether this is its line.
func entryOf(before, line string) (api.ArchiveEntry, bool) {
	// Without a blank the line before the sum is no entry.
	s := line[:max(strings.LastIndex(line, " "), 0)]
	x, e := ParseEntry(s)
	return x, e == api.OK && lineOf(before, x) == line
}

// wholeLines yields the lines of a journal that have a line feed, without it.
func wholeLines(journal string) iter.Seq[string] {
	return func(yield func(line string) bool) {
		line, left, isWhole := strings.Cut(journal, lineFeed)
		for isWhole && yield(line) {
			line, left, isWhole = strings.Cut(left, lineFeed)
		}
	}
}

// JournalOf returns the journal of a log.
func JournalOf(l []api.ArchiveEntry) (string, api.Errno) {
	if len(l) > api.MaxArchiveLog {
		return "", api.ErrLarge
	}
	_, e := checkItems(l, func(_ int, x api.ArchiveEntry) api.Errno {
		parsed, e := ParseEntry(FormatEntry(x))
		return when(e != api.OK || parsed != x, api.ErrForm)
	})
	if e != api.OK {
		return "", e
	}
	journal, before := "", ""
	for _, x := range l {
		before = lineOf(before, x)
		journal += before + lineFeed
	}
	return journal, api.OK
}

// Recovered returns the log of the longest beginning of a journal that is one, and how many bytes this has.
func Recovered(n api.ArchiveNet, journal string) ([]api.ArchiveEntry, int, api.Errno) {
	d, e := emptyDesk(n)
	if e = firstOf(e, when(len(journal) > api.MaxString, api.ErrLarge)); e != api.OK {
		return nil, 0, e
	}
	count, before := 0, ""
	for line := range wholeLines(journal) {
		x, isLine := entryOf(before, line)
		if !isLine || d.enter(x) != api.OK {
			break
		}
		before = line
		count += len(line) + len(lineFeed)
	}
	return d.log, count, api.OK
}
