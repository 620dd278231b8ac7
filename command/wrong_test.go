package command_test

import (
	"strings"
	"testing"

	"terrier/api"
	"terrier/command"
)

// P17.1: what is wrong of a command first

// longest is a right command of the most bytes.
const longest = "hold 255.255.255.255 abcdefgh fe:ff:ff:ff:ff:ff"

// filled makes a text n bytes long by what stands at its end.
func filled(s, with string, n int) string {
	s += strings.Repeat(with, (n-len(s))/len(with))
	return s + strings.Repeat("x", n-len(s))
}

// No command that is right is as long: up to 200 bytes it is told which word is wrong, and beyond only that it is too long.
func TestLength(t *testing.T) {
	for _, c := range []struct {
		begin, with string
		at          int
		err         api.Errno
	}{
		{"", "x", 0, api.ErrForm}, {"", " ", 0, api.ErrForm}, {"hold", "x", 0, api.ErrForm}, {"drops ", "x", 0, api.ErrForm}, {"Hold 1.2.3.4 ann ", stationText, 0, api.ErrForm},
		{"drop ", "x", 1, api.ErrForm}, {"drop 1.2.3.4", "0", 1, api.ErrForm}, {"drop 1.2.3.", "0", 1, api.ErrForm}, {"watch 10.0.0.0/", "0", 1, api.ErrForm}, {"ignore ", "1.", 1, api.ErrForm},
		{"hold ", "x", 2, api.ErrForm}, {"hold 1.2.3.4", "0", 2, api.ErrForm}, {"hold 1.2.3.4 ", "a", 2, api.ErrRange}, {"hold 1.2.3.4 ", "A", 2, api.ErrRange},
		{"hold 1.2.3.4 ann ", "x", 3, api.ErrForm}, {"hold 1.2.3.4 ann 02", ":00", 3, api.ErrForm}, {"hold 1.2.3.4 Ann ", "x", 2, api.ErrRange}, {"hold x Ann ", "x", 1, api.ErrForm},
		{longest + " ", "x", 4, api.ErrForm}, {"drop 1.2.3.4 ", "x", 2, api.ErrForm}, {"drop 1.2.3.4 ", " ", 2, api.ErrForm}, {longest, " ", 4, api.ErrForm},
		{"hold 1.2.3.4 ann ", " drop", 4, api.ErrForm}, {"watch 10.0.0.0/8 ", "\n", 2, api.ErrForm}, {"drop ", "é", 1, api.ErrForm}, {"drop ", "\xff", 1, api.ErrForm},
	} {
		for _, n := range []int{100, 198, 199, 200} {
			checkWrong(t, filled(c.begin, c.with, n), c.at, c.err)
		}
		for _, n := range []int{201, 202, 255, 256, 257, 400, 456, 1000, 65536 + 50} {
			checkUnplaced(t, filled(c.begin, c.with, n), api.ErrRange)
		}
	}
}

// The bytes count, and not the letters.
func TestLengthOfLetters(t *testing.T) {
	checkWrong(t, strings.Repeat("é", 100), 0, api.ErrForm)
	checkUnplaced(t, strings.Repeat("é", 101), api.ErrRange)
	checkUnplaced(t, "drop "+strings.Repeat("日", 66), api.ErrRange)
	checkWrong(t, "drop "+strings.Repeat("日", 65), 1, api.ErrForm)
}

func TestEveryLength(t *testing.T) {
	for n := range 600 {
		s := strings.Repeat("x", n)
		if n <= 200 {
			checkWrong(t, s, 0, api.ErrForm)
		} else {
			checkUnplaced(t, s, api.ErrRange)
		}
	}
}

func TestVeryLong(t *testing.T) {
	for _, s := range []string{"x", " ", "drop 1.2.3.4 ", "\x00", "hold "} {
		checkUnplaced(t, strings.Repeat(s, 1<<22), api.ErrRange)
	}
}

// A right command is one at its own length only: whatever stands behind it.
func TestRightCommandWithMoreBehindIt(t *testing.T) {
	checkParsed(t, longest, api.Event{What: api.Hold, Holder: api.Holder{Addr: 1<<32 - 1, Owner: "abcdefgh", Mac: api.Mac{0xfe, 0xff, 0xff, 0xff, 0xff, 0xff}}})
	for n := len(longest) + 1; n <= 200; n++ {
		checkWrong(t, longest+strings.Repeat(" ", n-len(longest)), 4, api.ErrForm)
	}
	checkUnplaced(t, longest+strings.Repeat(" ", 201-len(longest)), api.ErrRange)
}

func TestSpaces(t *testing.T) {
	for _, s := range []string{"", " ", "  ", "   ", strings.Repeat(" ", 200), "\t", "\n", "\x00", "\u00a0"} {
		checkWrong(t, s, 0, api.ErrForm)
	}
	for _, word := range firstWords() {
		right := word + " " + rest(word)
		for _, ahead := range []string{" ", "  ", "\t", "\n", "\u00a0", "\ufeff"} {
			checkWrong(t, ahead+right, 0, api.ErrForm)
			checkWrong(t, ahead+right+" ", 0, api.ErrForm)
		}
		checkWrong(t, word+"\t"+rest(word), 0, api.ErrForm)
		checkWrong(t, word+"\u00a0"+rest(word), 0, api.ErrForm)
		checkWrong(t, word+"\n", 0, api.ErrForm)
		if word == "hold" {
			continue
		}
		checkWrong(t, word+" ", 1, api.ErrForm)
		for _, s := range []string{"  ", "   ", "  " + rest(word), " " + rest(word) + " ", " " + rest(word) + "  ", "  " + rest(word) + " "} {
			checkWrong(t, word+s, 2, api.ErrForm)
		}
		for _, s := range []string{"\n", "\t", "\r\n", "\x00"} {
			checkWrong(t, right+s, 1, api.ErrForm)
		}
	}
}

func TestSpacesOfHold(t *testing.T) {
	for s, want := range map[string]api.Fault{
		"hold ":                                   {At: 2, Err: api.ErrForm},
		"hold  ":                                  {At: 1, Err: api.ErrForm},
		"hold   ":                                 {At: 1, Err: api.ErrForm},
		"hold    ":                                {At: 4, Err: api.ErrForm},
		"hold 10.0.0.1 ":                          {At: 2, Err: api.ErrRange},
		"hold 10.0.0.1  ":                         {At: 2, Err: api.ErrRange},
		"hold 10.0.0.1   ":                        {At: 4, Err: api.ErrForm},
		"hold  10.0.0.1":                          {At: 1, Err: api.ErrForm},
		"hold  10.0.0.1 ann":                      {At: 1, Err: api.ErrForm},
		"hold  10.0.0.1 ann " + stationText:       {At: 4, Err: api.ErrForm},
		"hold 10.0.0.1  ann":                      {At: 2, Err: api.ErrRange},
		"hold 10.0.0.1  ann " + stationText:       {At: 4, Err: api.ErrForm},
		"hold 10.0.0.1 ann ":                      {At: 3, Err: api.ErrForm},
		"hold 10.0.0.1 ann  ":                     {At: 4, Err: api.ErrForm},
		"hold 10.0.0.1 ann  " + stationText:       {At: 4, Err: api.ErrForm},
		"hold 10.0.0.1 ann " + stationText + " ":  {At: 4, Err: api.ErrForm},
		"hold 10.0.0.1 ann " + stationText + "  ": {At: 4, Err: api.ErrForm},
		"hold 10.0.0.1\tann":                      {At: 2, Err: api.ErrForm},
		"hold 10.0.0.1 ann\t" + stationText:       {At: 2, Err: api.ErrRange},
		"hold 10.0.0.1 ann\n":                     {At: 2, Err: api.ErrRange},
		"hold 10.0.0.1 ann " + stationText + "\n": {At: 3, Err: api.ErrForm},
		"hold 10.0.0.1\nann bob":                  {At: 1, Err: api.ErrForm},
	} {
		checkWrong(t, s, want.At, want.Err.(api.Errno))
	}
}

// almost are words that are nearly one: a letter more, less, other, or of the other size.
func almost(word string) []string {
	all := []string{strings.ToUpper(word), strings.ToUpper(word[:1]) + word[1:], word + word, word + "\x00", word + "\t", "-" + word, word + ":", word[1:] + word[:1]}
	for i := range word {
		all = append(all, word[:i]+word[i+1:], word[:i]+strings.ToUpper(word[i:i+1])+word[i+1:], word[:i]+string(rune(word[i]+1))+word[i+1:], word[:i]+word[i:i+1]+word[i:])
	}
	for i := range len(word) + 1 {
		all = append(all, word[:i]+"a"+word[i:], word[:i]+"s"+word[i:], word[:i]+"E"+word[i:])
	}
	return all
}

func TestFirstWords(t *testing.T) {
	for _, word := range firstWords() {
		for _, other := range almost(word) {
			for _, end := range []string{"", " ", " " + oneText, " " + blockText, " " + rest(word), " " + rest(word) + " " + stationText, " x", " x Ann x", " 1 2 3 4 5 6"} {
				checkWrong(t, other+end, 0, api.ErrForm)
			}
		}
	}
	for _, other := range []string{"", "tick", "saw", "none", "help", "event", "0", "1", "7", "keep", "lease", oneText, blockText, stationText, "done", "cancel", "raise", "held", "Tick", "ſaw"} {
		checkWrong(t, other, 0, api.ErrForm)
		for _, end := range []string{oneText, blockText, oneText + " ann", oneText + " ann " + stationText, "", "x", "x x x x x x"} {
			checkWrong(t, other+" "+end, 0, api.ErrForm)
		}
	}
}

func TestNumberOfWords(t *testing.T) {
	for _, word := range firstWords() {
		least, most := 2, 2
		if word == "hold" {
			least, most = 3, 4
		}
		// Whether the other words are right does not count yet.
		for _, others := range [][]string{
			{oneText, "ann", stationText, "x", "y"}, {blockText, "ann", stationText, "x", "y"}, {"x", "ann", stationText}, {oneText, "Ann", "x"}, {"x", "Ann", "x"}, {"", "", ""},
		} {
			for n := 1; n <= 80; n++ {
				s := word
				for i := range n - 1 {
					s += " " + others[i%len(others)]
				}
				switch {
				case len(s) > 200:
					checkUnplaced(t, s, api.ErrRange)
				case n < least:
					checkWrong(t, s, n, api.ErrForm)
				case n > most:
					checkWrong(t, s, most, api.ErrForm)
				}
			}
		}
	}
}

func TestNumberOfWordsOfEach(t *testing.T) {
	for _, word := range firstWords() {
		second := oneText
		if ofBlock(word) {
			second = blockText
		}
		checkWrong(t, word, 1, api.ErrForm)
		if word == "hold" {
			checkWrong(t, word+" "+second, 2, api.ErrForm)
			checkParsed(t, word+" "+second+" ann", eventOf(word))
			checkWrong(t, word+" "+second+" ann "+stationText+" x", 4, api.ErrForm)
			checkWrong(t, word+" "+second+" ann "+stationText+strings.Repeat(" x", 70), 4, api.ErrForm)
			continue
		}
		checkParsed(t, word+" "+second, eventOf(word))
		checkWrong(t, word+" "+second+" ann", 2, api.ErrForm)
		checkWrong(t, word+" "+second+" ann "+stationText, 2, api.ErrForm)
		checkWrong(t, word+" "+second+" ann "+stationText+" x", 2, api.ErrForm)
		checkWrong(t, word+" "+second+strings.Repeat(" x", 85), 2, api.ErrForm)
	}
}

// choice is a word that may stand at a place, and the error of it, or 0.
type choice struct {
	word string
	err  api.Errno
}

// Each word right or wrong, in all ways together: of a number of words that is right, the first wrong one is told.
func TestWhichErrorComesFirst(t *testing.T) {
	seconds := []choice{{oneText, 0}, {"10.0.0.256", api.ErrForm}, {"", api.ErrForm}, {blockText, api.ErrForm}}
	thirds := []choice{{"ann", 0}, {"Ann", api.ErrRange}, {"", api.ErrRange}, {"abcdefghi", api.ErrRange}}
	fourths := []choice{{stationText, 0}, {"00:00:00:00:00:00", api.ErrForm}, {"01:00:00:00:00:00", api.ErrForm}, {"x", api.ErrForm}, {"", api.ErrForm}}
	for _, second := range seconds {
		for _, third := range thirds {
			checkFirst(t, []choice{{"hold", 0}, second, third})
			checkFirst(t, []choice{{"Hold", api.ErrForm}, second, third})
			for _, fourth := range fourths {
				checkFirst(t, []choice{{"hold", 0}, second, third, fourth})
				checkFirst(t, []choice{{"hol", api.ErrForm}, second, third, fourth})
				s := " " + second.word + " " + third.word + " " + fourth.word + " x"
				checkWrong(t, "hold"+s, 4, api.ErrForm)
				checkWrong(t, "hold"+s+" y", 4, api.ErrForm)
				checkWrong(t, "drop"+s, 2, api.ErrForm)
				checkWrong(t, "Hold"+s, 0, api.ErrForm)
			}
			for _, word := range []string{"drop", "watch", "ignore", "approve", "reject"} {
				checkWrong(t, word+" "+second.word+" "+third.word, 2, api.ErrForm)
			}
		}
		for _, word := range []string{"drop", "approve", "reject"} {
			checkFirst(t, []choice{{word, 0}, second})
			checkFirst(t, []choice{{word + "s", api.ErrForm}, second})
		}
		checkWrong(t, "hold "+second.word, 2, api.ErrForm)
	}
}

// checkFirst looks for the error of the first word that has one.
func checkFirst(t *testing.T, choices []choice) {
	t.Helper()
	var words []string
	for _, c := range choices {
		words = append(words, c.word)
	}
	s := strings.Join(words, " ")
	for at, c := range choices {
		if c.err != 0 {
			checkWrong(t, s, at, c.err)
			return
		}
	}
	if _, err := command.Parse(s); err != nil {
		t.Errorf("Parse(%q): %v", s, err)
	}
}
