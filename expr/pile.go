package expr

import (
	"towncrier/api"
	"towncrier/value"
)

// thing is what lies on the pile: a value that may be, each kind as a type of its own.
type thing interface {
	kind() int
	value() api.Value
}

type (
	number int
	truth  bool
	text   string
	moment int
)

func (number) kind() int { return api.Int }
func (truth) kind() int  { return api.Bool }
func (text) kind() int   { return api.Bytes }
func (moment) kind() int { return api.Time }

func (n number) value() api.Value { return api.Value{Kind: api.Int, N: int(n)} }
func (t text) value() api.Value   { return api.Value{Kind: api.Bytes, S: string(t)} }
func (m moment) value() api.Value { return api.Value{Kind: api.Time, N: int(m)} }

func (t truth) value() api.Value {
	if t {
		return api.Value{Kind: api.Bool, N: 1}
	}
	return api.Value{Kind: api.Bool}
}

// thingOf is a value that may be, as it lies on the pile.
func thingOf(v api.Value) thing {
	switch v.Kind {
	case api.Int:
		return number(v.N)
	case api.Bool:
		return truth(v.N == 1)
	case api.Bytes:
		return text(v.S)
	}
	return moment(v.N)
}

// pile is what an expression is gone through with.
type pile struct {
	things []thing
	loads  []api.Value // what a Load finds
	wraps  bool        // whether no number is too great: it goes round
}

// through is what an expression that may be comes to, from an empty pile on, or the first error.
func (p *pile) through(l []api.Op) (thing, api.Errno) {
	for _, op := range l {
		t, why := p.comesOf(op)
		if why != api.OK {
			return nil, why
		}
		p.things = append(p.things, t)
	}
	if len(p.things) != 1 {
		return nil, api.ErrForm
	}
	return p.things[0], api.OK
}

// comesOf is what a part lays on the pile, when it has taken from it what it takes.
func (p *pile) comesOf(op api.Op) (thing, api.Errno) {
	switch op.Code {
	case api.Push:
		return thingOf(op.V), api.OK
	case api.Load:
		return p.load(op.Arg)
	case api.Not:
		return p.not()
	}
	last, _ := p.take() // there was one, if there is a left one
	left, is := p.take()
	if !is {
		return nil, api.ErrForm
	}
	return p.ofBoth(op.Code, left, last)
}

// take takes the last thing from the pile, if there is one.
func (p *pile) take() (thing, bool) {
	end := len(p.things) - 1
	if end < 0 {
		return nil, false
	}
	t := p.things[end]
	p.things = p.things[:end]
	return t, true
}

// load is the value at a place, from 0 on.
func (p *pile) load(at int) (thing, api.Errno) {
	if at >= len(p.loads) {
		return nil, api.ErrNone
	}
	return thingOf(p.loads[at]), api.OK
}

// not tells whether what it takes is not so.
func (p *pile) not() (thing, api.Errno) {
	last, is := p.take()
	if !is {
		return nil, api.ErrForm
	}
	t, is := last.(truth)
	if !is {
		return nil, api.ErrType
	}
	return !t, api.OK
}

// ofBoth is what comes of two things.
func (p *pile) ofBoth(code int, left, last thing) (thing, api.Errno) {
	switch code {
	case api.Plus, api.Minus, api.Times:
		return p.reckon(code, left, last)
	case api.Less:
		return less(left, last)
	case api.Same:
		return alike(left, last)
	}
	return judge(code, left, last)
}

// reckon is the number that comes of two numbers.
func (p *pile) reckon(code int, left, last thing) (thing, api.Errno) {
	a, is := left.(number)
	b, too := last.(number)
	if !is || !too {
		return nil, api.ErrType
	}
	n, fits := reckoned(code, a, b)
	if !fits && !p.wraps {
		return nil, api.ErrOver
	}
	return n, api.OK
}

// reckoned is the number that comes of two, gone round, if it is too great, and whether it is not.
func reckoned(code int, a, b number) (number, bool) {
	switch code {
	case api.Plus:
		sum := a + b
		return sum, (sum < a) == (b < 0)
	case api.Minus:
		rest := a - b
		return rest, (rest > a) == (b < 0)
	}
	return times(a, b)
}

// times is one number times another one, gone round, if it is too great, and whether it is not.
func times(a, b number) (number, bool) {
	if a == 0 || b == 0 {
		return 0, true
	}
	n := a * b
	below := (a < 0) != (b < 0)
	return n, n/b == a && (n < 0) == below // the lowest number times -1 is divided back to itself: only its sign tells
}

// less tells whether the left one is less.
func less(left, last thing) (thing, api.Errno) {
	is, ofOneKind := value.Less(left.value(), last.value())
	if !ofOneKind || left.kind() == api.Bool {
		return nil, api.ErrType
	}
	return truth(is), api.OK
}

// alike tells whether two of one kind are the same.
func alike(left, last thing) (thing, api.Errno) {
	if left.kind() != last.kind() {
		return nil, api.ErrType
	}
	return truth(left.value() == last.value()), api.OK
}

// judge tells whether both are so, of an And, or one at least, of an Or.
func judge(code int, left, last thing) (thing, api.Errno) {
	if left.kind() != api.Bool || last.kind() != api.Bool {
		return nil, api.ErrType
	}
	a, b := left.(truth), last.(truth)
	if code == api.And {
		return a && b, api.OK
	}
	return a || b, api.OK
}
