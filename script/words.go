package script

import (
	"strconv"
	"strings"

	"chanfabric/api"
	"chanfabric/cases"
)

// The words of lines, but for those of the kinds of operations.
const (
	channelWord = "channel"
	threadWord  = "thread"
	picksWord   = "picks"
	drawsWord   = "draws"
	tryWord     = "try"
	untilWord   = "until"
)

// What a line is made of besides its words.
const (
	indentation = "  " // ahead of an operation
	separator   = " "
	lineFeed    = "\n"
)

// textOf returns the text of a valid script, however long it is.
func textOf(s api.Script) string {
	var text strings.Builder
	for i, capacity := range s.Config.Capacities {
		writeLine(&text, channelWord, numberWord(capacity), valueWord(s.Config.Starts[i]))
	}
	for _, ops := range s.Ops {
		writeLine(&text, threadWord)
		for _, op := range ops {
			text.WriteString(indentation)
			writeLine(&text, operationWords(op)...)
		}
	}
	if len(s.Picks) > 0 {
		writeLine(&text, withNumbers([]string{picksWord}, s.Picks)...)
	}
	return text.String()
}

// writeLine writes words and ends the line.
func writeLine(text *strings.Builder, words ...string) {
	text.WriteString(strings.Join(words, separator))
	text.WriteString(lineFeed)
}

// operationWords returns the words of the line of an operation.
func operationWords(op api.Op) []string {
	return append(subjectWords(op), modeWords(op)...)
}

// subjectWords returns the words that say what an operation does, and on which channels.
func subjectWords(op api.Op) []string {
	if x, ok := cases.Single(op); ok {
		return caseWords(x)
	}
	if op.Kind == api.Select {
		return selectWords(op)
	}
	return []string{kindWord(op.Kind), numberWord(op.Channel)}
}

// selectWords returns the words of a Select with its cases and draws.
func selectWords(op api.Op) []string {
	words := []string{kindWord(api.Select)}
	if len(op.Cases) == 0 {
		return words
	}
	for _, x := range op.Cases {
		words = append(words, caseWords(x)...)
	}
	return withNumbers(append(words, drawsWord), op.Draws)
}

// caseWords returns the words of a case, which are those of the operation that corresponds to it.
func caseWords(x api.Case) []string {
	if x.Send {
		return []string{kindWord(api.Send), numberWord(x.Channel), valueWord(x.Value)}
	}
	return []string{kindWord(api.Recv), numberWord(x.Channel)}
}

// modeWords returns the words for the mode of an operation.
func modeWords(op api.Op) []string {
	switch op.Mode {
	case api.Try:
		return []string{tryWord}
	case api.Timed:
		return []string{untilWord, numberWord(op.Deadline)}
	}
	return nil
}

// withNumbers adds numbers to the words.
func withNumbers(words []string, numbers []int) []string {
	for _, n := range numbers {
		words = append(words, numberWord(n))
	}
	return words
}

// numberWord returns the only word that stands for a number.
func numberWord(n int) string {
	return strconv.Itoa(n)
}

// valueWord returns the only word that stands for a value or a start.
func valueWord(v uint64) string {
	return strconv.FormatUint(v, 10)
}

// kindWord returns the word for a kind of operations.
func kindWord(kind int) string {
	switch kind {
	case api.Send:
		return "send"
	case api.Recv:
		return "recv"
	case api.Close:
		return "close"
	case api.Select:
		return "select"
	case api.Len:
		return "len"
	case api.Cap:
		return "cap"
	}
	return ""
}

// kindOf returns the kind of operations for a word, and false if it is the word for none.
func kindOf(word string) (int, bool) {
	for kind := api.Send; kind <= api.Cap; kind++ {
		if kindWord(kind) == word {
			return kind, true
		}
	}
	return 0, false
}
