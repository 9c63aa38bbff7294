package check

import (
	"pangram/api"
	"pangram/eqs"
	"pangram/infer"
	"pangram/mus"
	"pangram/parse"
	"pangram/scope"
	"pangram/slice"
	"pangram/solve"
)

// inquiry is what is known of a text under right limits, while questions are asked of it.
type inquiry struct {
	text      string
	limits    api.Limits
	term      api.Term
	equations []api.Eq
	steps     int // questions, bytes that are read, equations that are laid, what solving them takes, and equations that a core has or hasn't
}

// question gives a verdict; the zero one, if the next question is to be asked.
type question func() api.Verdict

// ask asks one by one, till there is a verdict.
func (q *inquiry) ask(l ...question) api.Verdict {
	var v api.Verdict
asking:
	for _, next := range l {
		q.steps++
		v = next()
		if v.Kind != 0 {
			break asking
		}
	}
	v.Steps = q.steps
	return v
}

// untilLaid is the questions behind which, if none has a verdict, the equations are known.
func (q *inquiry) untilLaid() []question {
	return []question{q.length, q.form, q.names, q.layout}
}

// length asks whether the text is too long to be read.
func (q *inquiry) length() api.Verdict {
	if len(q.text) > q.limits.Bytes {
		return hit(api.LBytes)
	}
	return api.Verdict{}
}

// form asks which term the text is.
func (q *inquiry) form() api.Verdict {
	q.steps += len(q.text)
	t, at, e := parse.Term(q.text, q.limits.Depth)
	switch e {
	case api.OK:
		q.term = t
		return api.Verdict{}
	case api.ErrDeep:
		return hit(api.LDepth)
	}
	return api.Verdict{Kind: api.VSyntax, At: at}
}

// names asks whether all names are bound.
func (q *inquiry) names() api.Verdict {
	_, at, e := scope.Resolve(q.term)
	if e != api.OK {
		return api.Verdict{Kind: api.VScope, At: at}
	}
	return api.Verdict{}
}

// layout asks which equations the term has.
func (q *inquiry) layout() api.Verdict {
	l, e := eqs.Of(q.term, q.limits.Eqs)
	if e != api.OK {
		return hit(api.LEqs)
	}
	q.steps += len(l)
	q.equations = l
	return api.Verdict{}
}

// solution asks which type the term has.
func (q *inquiry) solution() api.Verdict {
	e, steps := solve.Count(q.equations...)
	q.steps += steps
	if e != api.OK {
		return api.Verdict{}
	}
	text, e := infer.Scheme(q.term)
	if e != api.OK {
		return hit(api.LSize)
	}
	return api.Verdict{Kind: api.VScheme, Scheme: text}
}

// blame asks which equations are why the term has no type.
func (q *inquiry) blame() api.Verdict {
	q.steps += len(q.equations)
	core, _ := mus.Core(q.equations...)
	return api.Verdict{Kind: api.VType, Core: core, Slices: slice.Of(q.equations, core...)}
}

// hit is the verdict that a limit is.
func hit(limit int) api.Verdict {
	return api.Verdict{Kind: api.VLimit, Limit: limit}
}
