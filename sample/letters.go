package sample

import (
	"strings"

	"shelfmark/api"
)

// Letter is a letter of which each field counts.
func Letter() api.Letter {
	return api.Letter{
		Kind: 1, From: 2, To: 3, A: 4, B: 5, C: 6, D: 7, Code: 8, Yes: true, S: "s", T: "tt", Body: "body",
		Pairs:   []api.Pair{{Key: "a", Val: "1"}, {Key: "", Val: "two"}},
		Intents: []api.Intent{{Entry: "e", Version: 9, Gone: true}, {Entry: "ee", Version: 300}, {Gone: true}},
	}
}

// Intent says of an entry whether it is gone as of a version.
func Intent(entry string, version int, gone bool) api.Intent {
	return api.Intent{Entry: entry, Version: version, Gone: gone}
}

// LetterOf is a letter whose texts are pieces of a line, each of three bytes: so they lie where the line lies.
func LetterOf(line string) api.Letter {
	return api.Letter{
		S: line[:3], T: line[3:6], Body: line[6:9],
		Pairs:   []api.Pair{{Key: line[9:12], Val: line[12:15]}},
		Intents: []api.Intent{{Entry: line[15:18], Version: 1, Gone: true}, {Entry: line[18:21], Version: 2}},
	}
}

// Texts are all texts of a letter.
func Texts(l api.Letter) []string {
	all := []string{l.S, l.T, l.Body}
	for _, p := range l.Pairs {
		all = append(all, p.Key, p.Val)
	}
	for _, i := range l.Intents {
		all = append(all, i.Entry)
	}
	return all
}

// LetterInRoom is a letter with other pairs and intents behind the lengths of its lists, and a test that all of them are as they were.
func LetterInRoom(t tester, l api.Letter) (api.Letter, func()) {
	pairs, checkPairs := InRoom(t, l.Pairs, api.Pair{Key: "behind", Val: "behind"}, api.Pair{Val: strings.Repeat("k", api.MaxPayload)})
	intents, checkIntents := InRoom(t, l.Intents, api.Intent{Entry: "behind", Version: 1, Gone: true}, api.Intent{Entry: "behind", Version: -1})
	l.Pairs, l.Intents = pairs, intents
	return l, func() {
		t.Helper()
		checkPairs()
		checkIntents()
	}
}

// SpoilLetter writes over all the memory that a letter's lists have.
func SpoilLetter(l api.Letter) {
	Overwrite(l.Pairs, api.Pair{Key: "spoilt", Val: "spoilt"})
	Overwrite(l.Intents, api.Intent{Entry: "spoilt", Version: -1, Gone: true})
}
