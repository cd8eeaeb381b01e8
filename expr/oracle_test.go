package expr_test

import (
	"math"
	"slices"

	"plumbline/api"
	"plumbline/lex"
)

// machine follows the document's grammar by states and stacks, without recursion.
type machine struct {
	ts    []lex.Token
	i     int
	vars  []string
	known bool
}

func (m *machine) token() lex.Token {
	switch {
	case len(m.ts) == 0:
		return lex.Token{Kind: lex.End}
	case m.i < 0:
		return m.ts[0]
	case m.i >= len(m.ts):
		return m.ts[len(m.ts)-1]
	}
	return m.ts[m.i]
}

func (m *machine) next() {
	if m.i < math.MaxInt {
		m.i++
	}
}

// sum is in one of five states: at the start, before a mono, behind a number, behind
// "*", or behind a mono.
func (m *machine) sum() ([]api.Mono, api.Errno) {
	const start, mono, number, star, done = 0, 1, 2, 3, 4
	var ms []api.Mono
	neg := false
	for state := start; ; m.next() {
		t := m.token()
		isNumber, isName := t.Kind == lex.Num, t.Kind == lex.Word && !lex.Reserved(t.Text)
		unknown := isName && m.known && !slices.Contains(m.vars, t.Text)
		isSign := t.Kind == lex.Sign && (t.Text == "+" || t.Text == "-")
		switch {
		case state == start && isSign && t.Text == "-":
			neg, state = true, mono
		case state <= mono && !isNumber && !isName:
			return nil, api.ErrWant
		case state <= mono && len(ms) == 64:
			return nil, api.ErrMany
		case state == star && !isName:
			return nil, api.ErrWant
		case (state <= mono || state == star) && unknown:
			return nil, api.ErrName
		case state <= mono && isNumber:
			ms, state = append(ms, api.Mono{Neg: neg, Num: t.Text}), number
		case state <= mono:
			ms, state = append(ms, api.Mono{Neg: neg, Var: t.Text}), done
		case state == star:
			ms[len(ms)-1].Var, state = t.Text, done
		case state == number && t.Kind == lex.Sign && t.Text == "*":
			state = star
		case isSign:
			neg, state = t.Text == "-", mono
		default:
			return ms, api.OK
		}
	}
}

func (m *machine) compare() (api.Tree, api.Errno) {
	l, e := m.sum()
	if e != api.OK {
		return api.Tree{}, e
	}
	op := slices.Index([]string{"=", "!=", "<", "<=", ">", ">="}, m.token().Text)
	if op < 0 || m.token().Kind != lex.Sign {
		return api.Tree{}, api.ErrWant
	}
	m.next()
	r, e := m.sum()
	if e != api.OK {
		return api.Tree{}, e
	}
	return cmp(l, op, r), api.OK
}

// stacks are the operators that are open and the trees that are finished.
type stacks struct {
	open     []string
	finished []api.Tree
}

// apply takes operators off the stack while the last one is one of these.
func (s *stacks) apply(these ...string) {
	for len(s.open) > 0 && slices.Contains(these, s.open[len(s.open)-1]) {
		last, n := s.open[len(s.open)-1], len(s.finished)
		s.open = s.open[:len(s.open)-1]
		switch last {
		case "!":
			s.finished[n-1] = not(s.finished[n-1])
		case "&":
			s.finished = append(s.finished[:n-2], and(s.finished[n-2], s.finished[n-1]))
		case "|":
			s.finished = append(s.finished[:n-2], or(s.finished[n-2], s.finished[n-1]))
		}
	}
}

func (s *stacks) levels() int {
	n := 0
	for _, o := range s.open {
		if o == "(" || o == "!" {
			n++
		}
	}
	return n
}

func (m *machine) cond() (api.Tree, api.Errno) {
	s := &stacks{}
	for {
		if e := m.operand(s); e != api.OK {
			return api.Tree{}, e
		}
		s.apply("!")
		for len(s.open) > s.enclosing() && m.sign(")") {
			s.apply("&", "|")
			s.open = s.open[:len(s.open)-1]
			s.apply("!")
			m.next()
		}
		switch {
		case m.sign("&"):
			s.apply("&")
			s.open = append(s.open, "&")
		case m.sign("|"):
			s.apply("&", "|")
			s.open = append(s.open, "|")
		case slices.Contains(s.open, "("):
			return api.Tree{}, api.ErrWant
		default:
			s.apply("&", "|")
			return s.finished[0], api.OK
		}
		m.next()
	}
}

// enclosing is the index of the last "(" that is open, or as many as are open.
func (s *stacks) enclosing() int {
	for i, o := range slices.Backward(s.open) {
		if o == "(" {
			return i
		}
	}
	return len(s.open)
}

func (m *machine) sign(text string) bool {
	return m.token().Kind == lex.Sign && m.token().Text == text
}

// operand reads up to an operand that has no parentheses.
func (m *machine) operand(s *stacks) api.Errno {
	for m.sign("!") || m.sign("(") {
		if s.levels() == 60 {
			return api.ErrDeep
		}
		s.open = append(s.open, m.token().Text)
		m.next()
	}
	switch t := m.token(); {
	case t.Kind == lex.Word && t.Text == "true":
		m.next()
		s.finished = append(s.finished, yes())
	case t.Kind == lex.Word && t.Text == "false":
		m.next()
		s.finished = append(s.finished, no())
	default:
		c, e := m.compare()
		s.finished = append(s.finished, c)
		return e
	}
	return api.OK
}
