package query

import (
	"towncrier/api"
	"towncrier/expr"
	"towncrier/le"
)

// What tells, as a number, whether a guard stands behind it.
const (
	noGuard = iota
	guard
)

// reader takes part by part from the beginning of bytes; it is short as soon as one was not there, and all that it took is nothing then.
type reader struct {
	left  []byte
	short bool
}

// query takes a query, well made or not.
func (r *reader) query() api.Query {
	return api.Query{
		Steps:   several(r, api.MaxSteps, r.step),
		Within:  r.number(),
		Agg:     r.number(),
		AggStep: r.number(),
		AggF:    r.number(),
	}
}

// step takes a step.
func (r *reader) step() api.Step {
	s := api.Step{Name: r.name(), If: r.expression(), Min: r.number(), Max: r.number(), Guard: r.guarded()}
	if s.Guard {
		s.NotName, s.NotIf = r.name(), r.expression()
	}
	return s
}

// name takes how many bytes a name has, and these, a name or not.
func (r *reader) name() string {
	return string(several(r, api.MaxName, r.one))
}

// one takes a byte.
func (r *reader) one() byte {
	return take(r, getByte)
}

// getByte is the byte that bytes begin by, how many bytes that has, and whether there is one.
func getByte(b []byte) (byte, int, bool) {
	if len(b) == 0 {
		return 0, 0, false
	}
	return b[0], 1, true
}

// expression takes an expression that may be.
func (r *reader) expression() []api.Op {
	return take(r, expr.Get)
}

// number takes a number.
func (r *reader) number() int {
	return int(take(r, le.Get)) // one too great for an int is below 0 then: no query with it is well made
}

// guarded takes whether a guard stands behind.
func (r *reader) guarded() bool {
	n := take(r, le.Get)
	r.short = r.short || n > guard
	return n == guard
}

// several takes how many things there are, most at most, and each of them by next.
func several[T any](r *reader, most uint64, next func() T) []T {
	n := take(r, le.Get)
	if n > most {
		r.short = true
		return nil
	}
	var l []T
	for range n {
		l = append(l, next())
	}
	return l
}

// take takes what bytes begin by, as get tells it.
func take[T any](r *reader, get func([]byte) (T, int, bool)) T {
	part, used, is := get(r.left)
	r.left = r.left[used:] // all stays, if there is none
	r.short = r.short || !is
	return part
}
