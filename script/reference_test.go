package script_test

import (
	"fmt"
	"math"
	"math/big"
	"regexp"
	"slices"
	"strings"

	"chanfabric/api"
	"chanfabric/script"
)

// This file is a second reading of the chapter, with regular expressions and formats in the place of words.

const (
	numberForm = `(?:0|-?[1-9][0-9]*)`
	valueForm  = `(?:0|[1-9][0-9]*)`
	caseForm   = `(?:send ` + numberForm + ` ` + valueForm + `|recv ` + numberForm + `)`
	singleForm = caseForm + `|(?:close|len|cap) ` + numberForm
	selectForm = `select(?: ` + caseForm + `)*(?: draws(?: ` + numberForm + `)+)?`
	modeForm   = `(?: try| until ` + numberForm + `)?`
)

var (
	channelLine   = regexp.MustCompile(`^channel (` + numberForm + `) (` + valueForm + `)$`)
	threadLine    = regexp.MustCompile(`^thread$`)
	operationLine = regexp.MustCompile(`^  (` + singleForm + `|` + selectForm + `)(` + modeForm + `)$`)
	picksLine     = regexp.MustCompile(`^picks((?: ` + numberForm + `)+)$`)
	anyCase       = regexp.MustCompile(`(?:^| )` + caseForm)
	drawsPart     = regexp.MustCompile(` draws(.*)$`)
)

// A reading is what the second reading has found out.
type reading struct {
	script api.Script
	fails  bool
}

// number returns the number of a word that has the form of one.
func (r *reading) number(word string) int {
	n, _ := new(big.Int).SetString(word, 10)
	if n == nil || n.CmpAbs(big.NewInt(1<<40)) > 0 {
		r.fails = true
		return 0
	}
	return int(n.Int64())
}

// value returns the value of a word that has the form of one.
func (r *reading) value(word string) uint64 {
	v, _ := new(big.Int).SetString(word, 10)
	if v == nil || v.BitLen() > 64 {
		r.fails = true
		return 0
	}
	return v.Uint64()
}

// numbers returns the numbers in a text.
func (r *reading) numbers(text string) []int {
	var list []int
	for _, word := range strings.Fields(text) {
		list = append(list, r.number(word))
	}
	return list
}

// caseIn returns the case that a text of its form describes.
func (r *reading) caseIn(text string) api.Case {
	words := strings.Fields(text)
	x := api.Case{Send: words[0] == "send", Channel: r.number(words[1])}
	if x.Send {
		x.Value = r.value(words[2])
	}
	return x
}

// operation returns the operation of the two parts of its line.
func (r *reading) operation(subject, mode string) api.Op {
	kinds := map[string]int{"send": api.Send, "recv": api.Recv, "close": api.Close, "select": api.Select, "len": api.Len, "cap": api.Cap}
	words := strings.Fields(subject)
	op := api.Op{Kind: kinds[words[0]]}
	switch op.Kind {
	case api.Send, api.Recv:
		x := r.caseIn(subject)
		op.Channel, op.Value = x.Channel, x.Value
	case api.Select:
		for _, text := range anyCase.FindAllString(subject, -1) {
			op.Cases = append(op.Cases, r.caseIn(text))
		}
		if draws := drawsPart.FindStringSubmatch(subject); draws != nil {
			op.Draws = r.numbers(draws[1])
		}
		r.fails = r.fails || len(op.Cases) != len(op.Draws)
	default:
		op.Channel = r.number(words[1])
	}
	if words := strings.Fields(mode); len(words) == 1 {
		op.Mode = api.Try
	} else if len(words) == 2 {
		op.Mode, op.Deadline = api.Timed, r.number(words[1])
	}
	return op
}

// line takes a line into account.
func (r *reading) line(line string) {
	s := &r.script
	channel, operation, picks := channelLine.FindStringSubmatch(line), operationLine.FindStringSubmatch(line), picksLine.FindStringSubmatch(line)
	switch {
	case len(s.Picks) > 0:
		r.fails = true
	case channel != nil && s.Config.Threads == 0:
		s.Config.Capacities = append(s.Config.Capacities, r.number(channel[1]))
		s.Config.Starts = append(s.Config.Starts, r.value(channel[2]))
	case threadLine.MatchString(line):
		s.Config.Threads++
		s.Ops = append(s.Ops, nil)
	case operation != nil && s.Config.Threads > 0:
		last := &s.Ops[len(s.Ops)-1]
		*last = append(*last, r.operation(operation[1], operation[2]))
	case picks != nil:
		s.Picks = r.numbers(picks[1])
	default:
		r.fails = true
	}
}

// parsed is a second reading of P20.3.
func parsed(text string) (api.Script, int, api.Errno) {
	if len(text) > 8000 {
		return api.Script{}, 0, api.ErrTooLong
	}
	lines := strings.Split(text, "\n")
	whole := len(lines) - 1
	var r reading
	for i, line := range lines[:whole] {
		if r.line(line); r.fails {
			return api.Script{}, i + 1, api.ErrSyntax
		}
	}
	if lines[whole] != "" {
		return api.Script{}, whole + 1, api.ErrSyntax
	}
	if e := script.Check(r.script); e != api.OK {
		return api.Script{}, 0, e
	}
	return r.script, 0, api.OK
}

// printedCase is a second reading of how a case is printed.
func printedCase(x api.Case) string {
	if x.Send {
		return fmt.Sprintf("send %d %d", x.Channel, x.Value)
	}
	return fmt.Sprintf("recv %d", x.Channel)
}

// printedNumbers puts a space ahead of each number.
func printedNumbers(list []int) string {
	text := ""
	for _, n := range list {
		text += fmt.Sprintf(" %d", n)
	}
	return text
}

// printedOp is a second reading of how an operation is printed.
func printedOp(op api.Op) string {
	text := ""
	switch op.Kind {
	case api.Send, api.Recv:
		text = printedCase(api.Case{Send: op.Kind == api.Send, Channel: op.Channel, Value: op.Value})
	case api.Select:
		text = "select"
		for _, x := range op.Cases {
			text += " " + printedCase(x)
		}
		if len(op.Cases) > 0 {
			text += " draws" + printedNumbers(op.Draws)
		}
	default:
		text = fmt.Sprintf("%s %d", map[int]string{api.Close: "close", api.Len: "len", api.Cap: "cap"}[op.Kind], op.Channel)
	}
	switch op.Mode {
	case api.Try:
		text += " try"
	case api.Timed:
		text += fmt.Sprintf(" until %d", op.Deadline)
	}
	return text
}

// printed is a second reading of P20.2 for valid scripts of any length.
func printed(s api.Script) string {
	text := ""
	for i := range s.Config.Capacities {
		text += fmt.Sprintf("channel %d %d\n", s.Config.Capacities[i], s.Config.Starts[i])
	}
	for _, ops := range s.Ops {
		text += "thread\n"
		for _, op := range ops {
			text += "  " + printedOp(op) + "\n"
		}
	}
	if len(s.Picks) > 0 {
		text += "picks" + printedNumbers(s.Picks) + "\n"
	}
	return text
}

// sameOp compares two operations.
func sameOp(a, b api.Op) bool {
	return a.Kind == b.Kind && a.Mode == b.Mode && a.Channel == b.Channel && a.Value == b.Value && a.Deadline == b.Deadline &&
		slices.Equal(a.Cases, b.Cases) && slices.Equal(a.Draws, b.Draws)
}

// same compares two scripts; a nil list is an empty one.
func same(a, b api.Script) bool {
	return slices.Equal(a.Config.Capacities, b.Config.Capacities) && slices.Equal(a.Config.Starts, b.Config.Starts) &&
		a.Config.Threads == b.Config.Threads && slices.Equal(a.Picks, b.Picks) &&
		slices.EqualFunc(a.Ops, b.Ops, func(x, y []api.Op) bool { return slices.EqualFunc(x, y, sameOp) })
}

// A generator makes numbers, always the same ones for a seed.
type generator uint64

// below returns a number from 0 to n - 1.
func (g *generator) below(n int) int {
	*g = *g*6364136223846793005 + 1442695040888963407
	return int(*g >> 33 % generator(n))
}

// one returns one element of a list.
func one[T any](g *generator, list ...T) T {
	return list[g.below(len(list))]
}

// value returns a value.
func (g *generator) value() uint64 {
	return one(g, 0, 1, 7, uint64(g.below(1000)), 1<<63-1, 1<<63, math.MaxUint64)
}

// channel returns the number of a channel.
func (g *generator) channel() int {
	return g.below(9) - 1
}

// oneCase returns a valid case.
func (g *generator) oneCase() api.Case {
	if g.below(2) == 0 {
		return api.Case{Channel: g.channel()}
	}
	return api.Case{Send: true, Channel: g.channel(), Value: g.value()}
}

// op returns a valid operation.
func (g *generator) op() api.Op {
	op := api.Op{Kind: 1 + g.below(6)}
	if op.Kind == api.Select {
		for i := range g.below(7) {
			op.Cases = append(op.Cases, g.oneCase())
			op.Draws = append(op.Draws, g.below(i+1))
		}
	} else {
		op.Channel = g.channel()
	}
	if op.Kind == api.Send {
		op.Value = g.value()
	}
	if op.Kind == api.Send || op.Kind == api.Recv || op.Kind == api.Select {
		op.Mode = g.below(3)
	}
	if op.Mode == api.Timed {
		op.Deadline = one(g, 0, 1, g.below(1000), 1<<40)
	}
	return op
}

// script returns a valid script with at most so many channels, threads, operations of a thread, and picks.
func (g *generator) script(channels, threads, ops, picks int) api.Script {
	s := api.Script{Config: api.Config{Threads: 1 + g.below(threads)}}
	for range g.below(channels + 1) {
		s.Config.Capacities = append(s.Config.Capacities, g.below(17))
		s.Config.Starts = append(s.Config.Starts, one[uint64](g, 0, 5, 1<<62, 1<<63-2, 1<<63-1))
	}
	for range s.Config.Threads {
		var list []api.Op
		for range g.below(ops + 1) {
			list = append(list, g.op())
		}
		s.Ops = append(s.Ops, list)
	}
	for range g.below(picks + 1) {
		s.Picks = append(s.Picks, one(g, g.below(s.Config.Threads), -1, -g.below(1000), -1<<40))
	}
	return s
}
