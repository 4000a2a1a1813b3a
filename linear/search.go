package linear

import (
	"slices"

	"chanfabric/api"
	"chanfabric/model"
)

// A search looks for a linearization. It remembers the states from which there is no way to go on.
type search struct {
	calls  []call
	failed map[string]bool
}

// A state consists of the calls that have taken effect, and of the channels afterwards.
type state struct {
	done  set
	chans []api.Chan
}

// A move lets one call take effect, or two together, and leads to a state.
type move struct {
	list []api.Done
	to   state
}

// from returns elements with which all calls that have returned take effect behind a state, and true; false if there are none.
func (s *search) from(at state) ([]api.Done, bool) {
	if s.isComplete(at.done) {
		return nil, true
	}
	key := s.key(at)
	if s.failed[key] {
		return nil, false
	}
	if !s.isStuck(at) {
		for _, m := range s.moves(at) {
			if rest, found := s.from(m.to); found {
				return append(m.list, rest...), true
			}
		}
	}
	s.failed[key] = true
	return nil, false
}

// isComplete reports whether all calls that have returned have taken effect.
func (s *search) isComplete(done set) bool {
	for i, x := range s.calls {
		if x.returned && done&single(i) == 0 {
			return false
		}
	}
	return true
}

// key writes down what of a state decides whether there is a way to go on. Which channels are closed follows
// from the calls. Of a value this is a call that still has to take it; those that no call has to take are alike.
func (s *search) key(at state) string {
	key := []byte{byte(at.done), byte(at.done >> 8)}
	for channel, c := range at.chans {
		key = append(key, byte(len(c.Buffer)))
		takers, _ := s.takers(at.done, channel)
		for _, value := range c.Buffer {
			i, _ := s.first(takers, value, 0)
			key = append(key, byte(i))
		}
	}
	return string(key)
}

// isStuck reports whether the values of a channel cannot be taken in their order. It looks at the calls
// that take them and at nothing else: so it finds only some of the states without a way, but soon.
func (s *search) isStuck(at state) bool {
	for channel, c := range at.chans {
		if !s.canTake(at.done, channel, c.Buffer) {
			return true
		}
	}
	return false
}

// canTake reports whether values of a channel can be taken in their order until no call has to take one.
func (s *search) canTake(done set, channel int, values []uint64) bool {
	takers, spare := s.takers(done, channel)
	for _, value := range values {
		if takers == 0 {
			return true
		}
		// If several calls can take the value, the first one that returns is never the worse choice:
		// what it precedes includes what the other ones precede.
		i, found := s.first(takers, value, takers)
		switch {
		case found:
			takers &^= single(i)
		case spare > 0:
			spare--
		default:
			return false
		}
	}
	return true
}

// takers returns the calls that have received a value from a channel and have not taken effect, and the number of the open calls that may do so.
func (s *search) takers(done set, channel int) (set, int) {
	takers, spare := set(0), 0
	for i, x := range s.calls {
		switch {
		case done&single(i) != 0:
		case x.took(channel):
			takers |= single(i)
		case x.mayTake(channel):
			spare++
		}
	}
	return takers, spare
}

// first returns the first one of some calls that has received a value and is not preceded by a call of a set, and true; false, and the number behind all calls, if there is none.
func (s *search) first(takers set, value uint64, ahead set) (int, bool) {
	for i, x := range s.calls {
		if takers&single(i) != 0 && x.result.Value == value && x.before&ahead == 0 {
			return i, true
		}
	}
	return most, false
}

// moves returns the moves from a state of which one has to be made if there is a way to go on.
func (s *search) moves(at state) []move {
	returned, open := s.next(at.done)
	var moves []move
	for _, i := range returned {
		m, ok := s.alone(at, i, s.calls[i].result)
		if ok && model.Same(m.to.chans, at.chans) {
			// Whatever way there is, this call can as well take effect in front of it.
			return []move{m}
		}
		if ok {
			moves = append(moves, m)
		}
	}
	for k, i := range returned {
		for _, j := range slices.Concat(returned[k+1:], open) {
			if m, ok := s.together(at, i, j); ok {
				moves = append(moves, m)
			}
		}
	}
	// What an open call does is needed only if it changes the channels, or lets a call go on that has
	// returned: so it need not meet another open call.
	for _, i := range open {
		for _, r := range model.Could(at.chans, s.calls[i].op) {
			if m, ok := s.alone(at, i, r); ok && !model.Same(m.to.chans, at.chans) {
				moves = append(moves, m)
			}
		}
	}
	return moves
}

// next returns the calls that can be the next ones because no other call still has to be in front of them: those that have returned, and the open ones.
func (s *search) next(done set) ([]int, []int) {
	var returned, open []int
	for i, x := range s.calls {
		switch {
		case done&single(i) != 0 || x.before&^done != 0:
		case x.returned:
			returned = append(returned, i)
		default:
			open = append(open, i)
		}
	}
	return returned, open
}

// alone returns the move with which a call takes effect by itself with a result, and true; false if it cannot.
func (s *search) alone(at state, i int, r api.Result) (move, bool) {
	after, ok := model.Apply(at.chans, s.calls[i].op, r)
	if !ok {
		return move{}, false
	}
	list := []api.Done{{Thread: s.calls[i].thread, Result: r}}
	return move{list: list, to: state{done: at.done | single(i), chans: after}}, true
}

// together returns the move with which a call that has returned and another one take effect together, and true; false if they cannot.
func (s *search) together(at state, i, j int) (move, bool) {
	x, y := s.calls[i], s.calls[j]
	for _, r := range y.answers(x) {
		if model.Pair(at.chans, x.op, x.result, y.op, r) {
			// A rendezvous leaves the channels as they are, whichever case of an open call takes part.
			list := []api.Done{{Thread: x.thread, Result: x.result}, {Thread: y.thread, Result: r}}
			return move{list: list, to: state{done: at.done | single(i) | single(j), chans: at.chans}}, true
		}
	}
	return move{}, false
}
