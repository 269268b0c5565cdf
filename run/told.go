package run

import "towncrier/api"

// told is a run with what is told of an event that the step it is told of has taken.
func told(q api.Query, r api.Run, e api.Event) api.Run {
	r.Many++
	x, is := number(e, q.AggF)
	if !is && q.Agg != api.Count { // a Count asks for no number
		r.Bad = true
		return r
	}
	return telling(q.Agg)(r, x)
}

// telling is how an event is told of, Many being one more already.
func telling(agg int) func(r api.Run, x int) api.Run {
	ways := [api.Aggs]func(r api.Run, x int) api.Run{
		api.Count: count,
		api.Sum:   sum,
		api.Min:   least,
		api.Max:   greatest,
	}
	if agg < 0 || agg >= len(ways) {
		return greatest
	}
	return ways[agg]
}

// number is the value of an event at a place, from 0 on, if there is one, and it is an Int.
func number(e api.Event, at int) (int, bool) {
	if at < 0 || at >= len(e.V) || e.V[at].Kind != api.Int {
		return 0, false
	}
	return e.V[at].N, true
}

// count tells how many there are.
func count(r api.Run, _ int) api.Run {
	r.Agg = r.Many
	return r
}

// sum tells a number and all ahead of it, together.
func sum(r api.Run, x int) api.Run {
	both := r.Agg + x
	if (both < r.Agg) != (x < 0) { // it went round
		r.Bad = true
		return r
	}
	r.Agg = both
	return r
}

// least tells the least number.
func least(r api.Run, x int) api.Run {
	if r.Many == 1 || x < r.Agg {
		r.Agg = x
	}
	return r
}

// greatest tells the greatest number.
func greatest(r api.Run, x int) api.Run {
	if r.Many == 1 || x > r.Agg {
		r.Agg = x
	}
	return r
}
