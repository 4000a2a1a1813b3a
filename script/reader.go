package script

import (
	"strconv"
	"strings"

	"chanfabric/api"
)

// A reader reads a text line by line, and a line word by word.
type reader struct {
	script api.Script // what the lines so far say
	rest   string     // the lines that have not been read
	line   int        // the number of the line that was begun last
	words  []string   // the words of this line that have not been read
	failed bool       // this line is of no form, or not at its place
}

// readLine reads the next line, and reports whether it is of one of the forms, at a place where it may stand.
func (r *reader) readLine() bool {
	r.line++
	line, rest, ended := strings.Cut(r.rest, lineFeed)
	r.require(ended)
	// Only the line of picks brings picks, and nothing may stand behind it.
	r.require(len(r.script.Picks) == 0)
	line, indented := strings.CutPrefix(line, indentation)
	r.rest, r.words = rest, strings.Split(line, separator)
	switch {
	case indented:
		r.operationLine()
	case r.take(channelWord):
		r.channelLine()
	case r.take(threadWord):
		r.threadLine()
	case r.take(picksWord):
		r.picksLine()
	}
	// Words that are left over, a first word of no form among them, belong to no form.
	r.require(len(r.words) == 0)
	return !r.failed
}

// require makes the reader fail if a condition is false.
func (r *reader) require(condition bool) {
	r.failed = r.failed || !condition
}

// channelLine reads a channel behind its first word.
func (r *reader) channelLine() {
	r.require(r.script.Config.Threads == 0)
	c := &r.script.Config
	c.Capacities = append(c.Capacities, r.number())
	c.Starts = append(c.Starts, r.value())
}

// threadLine begins a thread.
func (r *reader) threadLine() {
	r.script.Config.Threads++
	r.script.Ops = append(r.script.Ops, nil)
}

// operationLine reads an operation of the thread that began last.
func (r *reader) operationLine() {
	op := r.operation()
	threads := len(r.script.Ops)
	if threads == 0 {
		r.failed = true
		return
	}
	ops := &r.script.Ops[threads-1]
	*ops = append(*ops, op)
}

// picksLine reads the picks, of which there is at least one.
func (r *reader) picksLine() {
	r.script.Picks = r.numbers(max(len(r.words), 1))
}

// operation reads an operation.
func (r *reader) operation() api.Op {
	kind, ok := kindOf(r.word())
	r.require(ok)
	op := api.Op{Kind: kind}
	switch kind {
	case api.Send, api.Recv:
		x := r.caseOf(kind)
		op.Channel, op.Value = x.Channel, x.Value
	case api.Select:
		op.Cases = r.cases()
		op.Draws = r.draws(len(op.Cases))
	default:
		op.Channel = r.number()
	}
	op.Mode, op.Deadline = r.mode()
	return op
}

// cases reads the cases of a Select, as many as there are.
func (r *reader) cases() []api.Case {
	var list []api.Case
	for {
		switch {
		case r.take(kindWord(api.Send)):
			list = append(list, r.caseOf(api.Send))
		case r.take(kindWord(api.Recv)):
			list = append(list, r.caseOf(api.Recv))
		default:
			return list
		}
	}
}

// caseOf reads a case, or the operation of this kind that corresponds to it, behind its first word.
func (r *reader) caseOf(kind int) api.Case {
	x := api.Case{Send: kind == api.Send, Channel: r.number()}
	if x.Send {
		x.Value = r.value()
	}
	return x
}

// draws reads the draws of a Select with n cases.
func (r *reader) draws(n int) []int {
	if n == 0 {
		return nil
	}
	r.require(r.take(drawsWord))
	return r.numbers(n)
}

// mode reads the mode of an operation and its deadline.
func (r *reader) mode() (int, int) {
	switch {
	case r.take(tryWord):
		return api.Try, 0
	case r.take(untilWord):
		return api.Timed, r.number()
	}
	return api.Blocking, 0
}

// numbers reads n numbers.
func (r *reader) numbers(n int) []int {
	list := make([]int, n)
	for i := range list {
		list[i] = r.number()
	}
	return list
}

// number reads a number from -api.MaxTime to api.MaxTime.
func (r *reader) number() int {
	word := r.word()
	n, err := strconv.Atoi(word)
	// The conversion also takes words like +5 and 05.
	r.require(err == nil && numberWord(n) == word && n >= -api.MaxTime && n <= api.MaxTime)
	return n
}

// value reads a value or a start, which may be any number of 64 bits.
func (r *reader) value() uint64 {
	word := r.word()
	v, err := strconv.ParseUint(word, 10, 64)
	r.require(err == nil && valueWord(v) == word)
	return v
}

// take reads the next word if it is this one, and reports whether it was.
func (r *reader) take(word string) bool {
	if len(r.words) == 0 || r.words[0] != word {
		return false
	}
	r.words = r.words[1:]
	return true
}

// word reads the next word.
func (r *reader) word() string {
	if len(r.words) == 0 {
		r.failed = true
		return ""
	}
	word := r.words[0]
	r.words = r.words[1:]
	return word
}
