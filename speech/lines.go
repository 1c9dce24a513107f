package speech

import (
	"slices"
	"strings"

	"unbent/api"
	"unbent/frac"
)

// demand ends the reading of a text by a panic with e, unless ok: a word that is wrong is often found deep within its line.
func demand(ok bool, e api.Errno) {
	if !ok {
		panic(e)
	}
}

// readLines hands the words of each line to read. Line is the number of the line that is read, also where a panic ends it; behind the last line, the number of lines and 1.
func readLines(s string, line *int, read func(words []string)) {
	for _, l := range linesOf(s) {
		*line++
		words := strings.Split(l, " ")
		demand(!slices.Contains(words, ""), api.ErrWord)
		read(words)
	}
	*line++
}

// linesOf is a text's lines; a line feed ends a line, and begins none.
func linesOf(s string) []string {
	if s == "" {
		return nil
	}
	return strings.Split(strings.TrimSuffix(s, "\n"), "\n")
}

// joined is the text of lines that are given as their words.
func joined(lines [][]string) string {
	var text strings.Builder
	for _, words := range lines {
		text.WriteString(strings.Join(words, " "))
		text.WriteString("\n")
	}
	return text.String()
}

// isName reports whether a word is a name.
func isName(word string) bool {
	if word == "" || len(word) > api.MaxName {
		return false
	}
	for i := range len(word) {
		if word[i] < 'a' || word[i] > 'z' {
			return false
		}
	}
	return true
}

// declare reads a name that is to be new, and gives it the next place.
func declare(places map[string]int, word string) string {
	_, twice := places[word]
	demand(isName(word), api.ErrName)
	demand(!twice, api.ErrTwice)
	name := strings.Clone(word)
	places[name] = len(places)
	return name
}

// placeOf reads a name that was declared.
func placeOf(places map[string]int, word string) int {
	at, ok := places[word]
	demand(ok, api.ErrKnown)
	return at
}

// placesOf reads names that were declared.
func placesOf(places map[string]int, words []string) []int {
	return each(words, func(word string) int { return placeOf(places, word) })
}

func number(word string) api.Frac {
	f, e := frac.Parse(word)
	demand(e == api.OK, api.ErrNumber)
	return f
}

// unsigned reads a number that is not below 0.
func unsigned(word string) api.Frac {
	f := number(word)
	demand(frac.Sign(f) >= 0, api.ErrNumber)
	return f
}

// each is what f makes of each of a list.
func each[A, B any](l []A, f func(A) B) []B {
	var out []B
	for _, a := range l {
		out = append(out, f(a))
	}
	return out
}
