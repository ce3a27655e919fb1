package hybrid

import (
	"strconv"
	"strings"

	"ductility/api"
)

// The words of a test and of a message, which word of a test tells whether it compensates, and where those words begin that may have a sign.
const (
	testWords       = 9
	messageWords    = 3
	compensatesWord = 5
	signedWords     = 7
)

// The digits of a number of tests and of messages at most.
const (
	testDigits    = 4
	messageDigits = 13
)

// The words of the kinds of messages, and of tests that do not compensate, or do.
const (
	commandWord = "c"
	replyWord   = "r"
	noWord      = "0"
	yesWord     = "1"
)

// numberOf returns the number of a word of at most so many digits, or ErrSyntax.
func numberOf(word string, digits int) (int, api.Errno) {
	if len(word) == 0 || len(word) > digits || len(word) > 1 && word[0] == '0' {
		return 0, api.ErrSyntax
	}
	n := 0
	for _, digit := range []byte(word) {
		if digit < '0' || digit > '9' {
			return 0, api.ErrSyntax
		}
		n = 10*n + int(digit-'0')
	}
	return n, api.OK
}

// signedOf returns the number of a word that may begin with "-", or ErrSyntax.
func signedOf(word string, digits int) (int, api.Errno) {
	size, isBelow := strings.CutPrefix(word, "-")
	n, e := numberOf(size, digits)
	if !isBelow {
		return n, e
	}
	return -n, firstOf(e, when(n == 0, api.ErrSyntax))
}

// FormatTest returns the string of a test.
func FormatTest(x api.HybridTest) string {
	compensates := noWord
	if x.Compensates {
		compensates = yesWord
	}
	return strings.Join([]string{
		strconv.Itoa(x.Mass), strconv.Itoa(x.Damping), strconv.Itoa(x.Computed), strconv.Itoa(x.Shaken),
		strconv.Itoa(x.Delay), compensates, strconv.Itoa(x.Bound),
		strconv.Itoa(x.Forces.Lo), strconv.Itoa(x.Forces.Hi),
	}, " ")
}

// ParseTest returns the test of a string.
func ParseTest(s string) (api.HybridTest, api.Errno) {
	words := strings.Split(s, " ")
	if len(words) != testWords || words[compensatesWord] != noWord && words[compensatesWord] != yesWord {
		return api.HybridTest{}, api.ErrSyntax
	}
	var n [testWords]int
	_, e := checkItems(words, func(i int, word string) api.Errno {
		read := numberOf
		if i >= signedWords {
			read = signedOf
		}
		number, e := read(word, testDigits)
		n[i] = number
		return e
	})
	x := api.HybridTest{
		Mass: n[0], Damping: n[1], Computed: n[2], Shaken: n[3], Delay: n[4],
		Compensates: words[compensatesWord] == yesWord,
		Bound:       n[6], Forces: api.Range{Lo: n[7], Hi: n[8]},
	}
	if e = firstOf(e, CheckTest(x)); e != api.OK {
		return api.HybridTest{}, e
	}
	return x, api.OK
}

// FormatMessages returns the string of messages.
func FormatMessages(l []api.HybridMessage) string {
	var parts []string
	for _, message := range l {
		kind := replyWord
		if message.Kind == api.HybridCommand {
			kind = commandWord
		}
		parts = append(parts, kind+" "+strconv.Itoa(message.Step)+" "+strconv.Itoa(message.At))
	}
	return strings.Join(parts, ";")
}

// messageOf returns the message of a part of a string, or ErrSyntax.
func messageOf(part string) (api.HybridMessage, api.Errno) {
	words := strings.Split(part, " ")
	if len(words) != messageWords {
		return api.HybridMessage{}, api.ErrSyntax
	}
	kind := api.HybridCommand
	if words[0] == replyWord {
		kind = api.HybridReply
	}
	isKind := words[0] == commandWord || words[0] == replyWord
	step, stepError := numberOf(words[1], messageDigits)
	at, atError := numberOf(words[2], messageDigits)
	return api.HybridMessage{Kind: kind, Step: step, At: at}, firstOf(when(!isKind, api.ErrSyntax), stepError, atError)
}

// ParseMessages returns the messages of a string.
func ParseMessages(s string) ([]api.HybridMessage, api.Errno) {
	if len(s) > api.MaxString {
		return nil, api.ErrLarge
	}
	if s == "" {
		return nil, api.OK
	}
	parts := strings.Split(s, ";")
	l := make([]api.HybridMessage, len(parts))
	_, e := checkItems(parts, func(i int, part string) api.Errno {
		message, e := messageOf(part)
		l[i] = message
		return e
	})
	if _, messagesError := CheckMessages(l); firstOf(e, messagesError) != api.OK {
		return nil, firstOf(e, messagesError)
	}
	return l, api.OK
}
