package archive

import (
	"slices"
	"strings"

	"ductility/api"
	"ductility/modal"
	"ductility/motion"
	"ductility/safety"
	"ductility/sensor"
)

// roleNames is the names of roles, with which persons sign.
var roleNames = [api.ArchiveRoles]string{
	api.ArchiveGuest:    "guest",
	api.ArchiveOperator: "operator",
	api.ArchiveEngineer: "engineer",
	api.ArchiveChief:    "chief",
}

// deed is the words of an entry, the index of the specimen that they name, the person who made it, and its tick.
type deed struct {
	words
	index int
	by    api.ArchivePerson
	at    int
}

// text is the kinds of words behind the first one, the least role that may make the text, and what has its effect, or returns its error and changes nothing.
type text struct {
	kinds string
	least int
	apply func(d *desk, x deed) api.Errno
}

// texts returns all texts by their first words.
func texts() map[string]text {
	return map[string]text{
		"note":     {"r", api.ArchiveGuest, (*desk).note},
		"specimen": {"wn", api.ArchiveEngineer, (*desk).addSpecimen},
		"put":      {"sn", api.ArchiveOperator, (*desk).putSpecimen},
		"clear":    {"s", api.ArchiveOperator, (*desk).clearSpecimen},
		"sign":     {"sw", api.ArchiveOperator, (*desk).signGate},
		"action":   {"w", api.ArchiveOperator, (*desk).doAction},
		"seal":     {"sn", api.ArchiveGuest, (*desk).addSeal},
		"open":     {"sr", api.ArchiveGuest, (*desk).openSeal},
		"begin":    {"snr", api.ArchiveOperator, (*desk).beginRun},
		"record":   {"wr", api.ArchiveOperator, (*desk).recordChannel},
		"decay":    {"r", api.ArchiveOperator, (*desk).recordDecay},
		"end":      {"", api.ArchiveOperator, (*desk).endRun},
	}
}

// textOf returns which text a string is, and its words, or ErrSyntax.
func textOf(s string) (text, words, api.Errno) {
	t, isText := texts()[firstWord(s)]
	said, e := wordsOf(s, t.kinds)
	return t, said, firstOf(when(!isText || strings.Contains(s, lineFeed), api.ErrSyntax), e)
}

// note has no effect: the log alone keeps notes.
func (d *desk) note(deed) api.Errno { return api.OK }

// addSpecimen has the effect of "specimen".
func (d *desk) addSpecimen(x deed) api.Errno {
	e := firstOf(
		nameError(stringsOf(d.Specimens, specimenName), x.word),
		when(x.number > api.MaxArchiveCuring, api.ErrRange),
		when(len(d.Specimens) >= api.MaxArchiveSpecimens, api.ErrFull))
	if e != api.OK {
		return e
	}
	d.Specimens = append(d.Specimens, api.ArchiveSpecimen{Name: x.word, Ready: x.at + x.number, Space: api.ArchiveNowhere})
	return api.OK
}

// putSpecimen has the effect of "put".
func (d *desk) putSpecimen(x deed) api.Errno {
	s := &d.Specimens[x.index]
	isTaken := slices.ContainsFunc(d.Specimens, func(other api.ArchiveSpecimen) bool { return other.Space == x.number })
	e := firstOf(
		when(x.number >= d.Spaces, api.ErrRange),
		when(s.Space != api.ArchiveNowhere, api.ErrDouble),
		when(isTaken, api.ErrBusy))
	if e != api.OK {
		return e
	}
	s.Space = x.number
	return api.OK
}

// clearSpecimen has the effect of "clear".
func (d *desk) clearSpecimen(x deed) api.Errno {
	s := &d.Specimens[x.index]
	if e := firstOf(when(s.Space == api.ArchiveNowhere, api.ErrState), when(d.Open == x.index, api.ErrBusy)); e != api.OK {
		return e
	}
	s.Space = api.ArchiveNowhere
	return api.OK
}

// signGate has the effect of "sign".
func (d *desk) signGate(x deed) api.Errno {
	s := &d.Specimens[x.index]
	gate := slices.Index(stringsOf(d.Gates, gateName), x.word)
	sign := api.SafetySign{Gate: gate, Person: x.by.Name, Role: roleNames[x.by.Role]}
	e := firstOf(
		when(gate < 0, api.ErrMissing),
		// A person has one role alone: another signature for the gate would be the same.
		when(slices.Contains(s.Signs, sign), api.ErrDouble),
		when(len(s.Signs) >= api.MaxSafetySigns, api.ErrFull))
	if e != api.OK {
		return e
	}
	s.Signs = append(s.Signs, sign)
	return api.OK
}

// doAction has the effect of "action".
func (d *desk) doAction(x deed) api.Errno {
	m := d.ArchiveNet.Machine
	action := slices.Index(stringsOf(m.Actions, actionName), x.word)
	next, e := safety.NextBy(m, d.ArchiveState.Machine, action)
	if e = firstOf(e, when(isHarm(m, next), api.ErrBreak)); e != api.OK {
		return e
	}
	d.ArchiveState.Machine = next
	return api.OK
}

// sealBy returns the index of the seal of a person, below 0 if there is none.
func sealBy(seals []api.ArchiveSeal, person string) int {
	return slices.IndexFunc(seals, func(seal api.ArchiveSeal) bool { return seal.By == person })
}

// addSeal has the effect of "seal".
func (d *desk) addSeal(x deed) api.Errno {
	s := &d.Specimens[x.index]
	e := firstOf(
		when(len(s.Runs) > 0, api.ErrState),
		when(sealBy(s.Seals, x.by.Name) >= 0, api.ErrDouble),
		when(len(s.Seals) >= api.MaxArchiveSeals, api.ErrFull))
	if e != api.OK {
		return e
	}
	s.Seals = append(s.Seals, api.ArchiveSeal{By: x.by.Name, Sum: x.number})
	return api.OK
}

// openSeal has the effect of "open".
func (d *desk) openSeal(x deed) api.Errno {
	seals := d.Specimens[x.index].Seals
	own := sealBy(seals, x.by.Name)
	if own < 0 {
		return api.ErrNone
	}
	seal := &seals[own]
	e := firstOf(
		when(seal.Opened, api.ErrDouble),
		when(len(d.done(x.index)) == 0, api.ErrState),
		when(sumOf(x.rest) != seal.Sum, api.ErrProof))
	if e != api.OK {
		return e
	}
	seal.Opened, seal.Text = true, x.rest
	return api.OK
}

// beginRun has the effect of "begin".
func (d *desk) beginRun(x deed) api.Errno {
	s := &d.Specimens[x.index]
	// Neither error is lost: gates and signatures that were checked have none, and that of a record comes before its end.
	signed, _ := safety.LevelBy(d.Gates, s.Signs)
	record, recordError := motion.ParseRecord(x.rest)
	end, _ := motion.EndOf(record)
	e := firstOf(
		when(d.Open != api.ArchiveNowhere, api.ErrBusy),
		when(s.Space == api.ArchiveNowhere, api.ErrState),
		when(x.at < s.Ready, api.ErrOpen),
		when(!isWithin(1, len(d.Gates), x.number), api.ErrRange),
		when(signed < x.number, api.ErrRefused),
		when(x.number > d.level(x.index)+1, api.ErrGap),
		when(!holds(d.ArchiveNet.Machine, d.ArchiveState.Machine, d.Permits), api.ErrClash),
		recordError,
		when(end != api.MotionEnd{}, api.ErrForm),
		when(len(s.Runs) >= api.MaxArchiveRuns, api.ErrFull))
	if e != api.OK {
		return e
	}
	s.Runs = append(s.Runs, api.ArchiveRun{Level: x.number, Motion: record})
	d.Open = x.index
	return api.OK
}

// recordChannel has the effect of "record".
func (d *desk) recordChannel(x deed) api.Errno {
	run := d.openRun()
	if run == nil {
		return api.ErrNone
	}
	channel := slices.Index(stringsOf(d.Channels, channelName), x.word)
	raw, e := sensor.ParseRaw(x.rest)
	e = firstOf(
		when(channel < 0, api.ErrMissing),
		when(slices.Contains(run.Channels, channel), api.ErrDouble),
		e)
	if e != api.OK {
		return e
	}
	run.Channels = append(run.Channels, channel)
	run.Raws = append(run.Raws, raw)
	return api.OK
}

// recordDecay has the effect of "decay".
func (d *desk) recordDecay(x deed) api.Errno {
	run := d.openRun()
	if run == nil {
		return api.ErrNone
	}
	decay, e := modal.ParseDecay(x.rest)
	_, periodError := modal.PeriodIn(decay)
	if e = firstOf(when(run.Decays, api.ErrDouble), e, periodError); e != api.OK {
		return e
	}
	run.Decays, run.Decay = true, decay
	return api.OK
}

// endRun has the effect of "end".
func (d *desk) endRun(deed) api.Errno {
	run := d.openRun()
	if run == nil {
		return api.ErrNone
	}
	if e := firstOf(when(len(run.Channels) == 0, api.ErrZero), when(!run.Decays, api.ErrGap)); e != api.OK {
		return e
	}
	d.Open = api.ArchiveNowhere
	return api.OK
}
