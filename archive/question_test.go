package archive_test

import (
	"strconv"
	"strings"
	"testing"

	"ductility/api"
	"ductility/archive"
)

// P10.5
func TestAnswer(t *testing.T) {
	done := longer(doneLog(), "9 zoe open wall a")
	two := longer(wideLog(), "2 eve specimen beam 7", "3 zoe seal beam 98", "3 yan seal beam 98", "3 zoe seal wall 98", "9 bob action turn", "9 bob action start", "9 ann begin wall 1 "+small)
	for _, y := range []struct {
		question string
		n        api.ArchiveNet
		l        []api.ArchiveEntry
		want     string
	}{
		{"specimens", exampleNet(), nil, ""},
		{"specimens", exampleNet(), done, "wall"},
		{"specimens", wideNet(), two, "wall beam"},
		{"specimen wall", exampleNet(), done[:1], "- 6 0 0"},
		{"specimen wall", exampleNet(), done[:2], "0 6 0 0"},
		{"specimen wall", exampleNet(), done[:8], "0 6 0 0"},
		{"specimen wall", exampleNet(), done, "0 6 1 1"},
		{"specimen wall", exampleNet(), longer(done, "9 bob clear wall"), "- 6 1 1"},
		{"specimen wall", exampleNet(), longer(done, "9 bob begin wall 1 "+small), "0 6 1 1"},
		{"specimen wall", wideNet(), two, "1 1 0 0"},
		{"specimen beam", wideNet(), two, "- 9 0 0"},
		{"specimen wall", wideNet(), twoLog(), "1 1 2 3"},
		{"specimen beam", wideNet(), twoLog(), "0 1 1 2"},
		{"machine", exampleNet(), nil, "0"},
		{"machine", with(exampleNet(), func(n *api.ArchiveNet) { n.Begin = 3 }), nil, "3"},
		{"machine", exampleNet(), done, "1"},
		{"machine", wideNet(), two, "3"},
		{"open", exampleNet(), nil, "-"},
		{"open", exampleNet(), done[:5], "-"},
		{"open", exampleNet(), done[:6], "wall 1"},
		{"open", exampleNet(), done[:8], "wall 1"},
		{"open", exampleNet(), done, "-"},
		{"open", wideNet(), two, "wall 1"},
		{"open", wideNet(), longer(twoLog(), "9 bob begin wall 3 "+small), "wall 3"},
		{"open", wideNet(), longer(twoLog(), "9 bob begin beam 1 "+small), "beam 1"},
		{"seals wall", exampleNet(), done[:3], "0 0"},
		{"seals wall", exampleNet(), done[:4], "1 0"},
		{"seals wall", exampleNet(), done, "1 1"},
		{"seals beam", wideNet(), two, "2 0"},
		{"seals wall", wideNet(), two, "1 0"},
		{"seals wall", wideNet(), longer(two, "9 ann record acc 1", "9 ann decay "+early, "9 ann end", "9 zoe open wall a"), "1 1"},
	} {
		mustHold(t, y.n, y.l)
		answer, e := archive.Answer(y.n, y.l, y.question)
		mustBe(t, y.question, answer, e, y.want, api.OK)
	}
}

// P10.5: strings that are no questions, and questions about specimens that there are not.
func TestBadQuestions(t *testing.T) {
	for want, l := range map[api.Errno][]string{
		api.ErrSyntax: {
			"", " ", "?", "specimens ", "specimens wall", " specimens", "Specimens", "specimens\n", "specimen", "specimen ", "specimen  ", "specimen  wall", "specimen wall ", "specimen wall wall", "specimen\nwall",
			"machine ", "machine 0", "machines", "Machine", "open ", "open wall", "opened", "OPEN", "seals", "seals ", "seals wall ", "seals  wall", "seals wall zoe", "seal wall", "note so", "end", "put wall 0",
			strings.Repeat("specimens ", 10000), "open" + strings.Repeat("x", 100000),
		},
		api.ErrMissing: {"specimen beam", "seals beam", "specimen Wall", "specimen wall\n", "specimen -", "seals 0", "seals \x00", "seals " + strings.Repeat("x", 100000), "specimen zoe", "seals acc"},
	} {
		for _, question := range l {
			answer, e := archive.Answer(exampleNet(), doneLog(), question)
			mustFail(t, question, answer, e, want)
		}
	}
	for _, word := range badWords() {
		answer, e := archive.Answer(exampleNet(), doneLog(), "seals "+word)
		mustFail(t, word, answer, e, api.ErrMissing)
	}
	for _, question := range []string{"specimen wall", "seals wall"} {
		answer, e := archive.Answer(exampleNet(), nil, question)
		mustFail(t, question, answer, e, api.ErrMissing)
	}
}

// P10.5: answers are what the state has.
func TestAnswersOfStates(t *testing.T) {
	for _, l := range someLogs(200) {
		s := stateAfter(t, wideNet(), l)
		must := func(question, want string) {
			t.Helper()
			answer, e := archive.Answer(wideNet(), l, question)
			mustBe(t, question, answer, e, want, api.OK)
		}
		var names []string
		for i, x := range s.Specimens {
			names = append(names, x.Name)
			space, opened, done := strconv.Itoa(x.Space), 0, len(x.Runs)
			if x.Space == api.ArchiveNowhere {
				space = "-"
			}
			for _, seal := range x.Seals {
				if seal.Opened {
					opened++
				}
			}
			if s.Open == i {
				done--
				must("open", x.Name+" "+strconv.Itoa(x.Runs[done].Level))
			}
			level, e := archive.LevelOf(wideNet(), l, x.Name)
			mustBe(t, x.Name, 0, e, 0, api.OK)
			must("specimen "+x.Name, space+" "+strconv.Itoa(x.Ready)+" "+strconv.Itoa(level)+" "+strconv.Itoa(done))
			must("seals "+x.Name, strconv.Itoa(len(x.Seals))+" "+strconv.Itoa(opened))
			count, e := archive.SealsOf(wideNet(), l, x.Name)
			mustBe(t, x.Name, count, e, api.ArchiveCount{Some: opened, All: len(x.Seals)}, api.OK)
		}
		must("specimens", strings.Join(names, " "))
		must("machine", strconv.Itoa(s.Machine))
		if s.Open == api.ArchiveNowhere {
			must("open", "-")
		}
	}
}
