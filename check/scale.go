package check

import (
	"slices"

	"switchyard/api"
)

// heaviest is the most that a Weight may be.
const heaviest = 1 << 40

// place is an in port of a type.
type place struct{ typ, port string }

// scale weighs the in ports of a valid choreography, each of them once: the
// ways through several moves to the same ports are too many to go them all.
type scale struct {
	def   api.Def
	known map[place]int // 0 while a port is being weighed
	round bool          // a way leads back to where it began
}

func newScale(d api.Def) *scale {
	return &scale{def: d, known: map[place]int{}}
}

// weigh returns the Weight of an in port, unless a way leads round.
func (s *scale) weigh(p place) int {
	if n, begun := s.known[p]; begun {
		s.round = s.round || n == 0
		return n
	}
	s.known[p] = 0
	t, _ := typeOf(s.def, p.typ)
	most := 0
	for _, m := range t.Moves {
		if m.On == p.port {
			most = max(most, s.sent(t, m))
		}
	}
	s.known[p] = min(1+most, heaviest)
	return s.known[p]
}

// sent returns how many messages those that a move sends may bring about.
func (s *scale) sent(t api.Type, m api.Move) int {
	sum := 0
	for _, c := range s.def.Channels {
		if c.From == t.Name && slices.Contains(m.Sends, c.FromPort) {
			sum += c.High * s.weigh(place{c.To, c.ToPort})
		}
	}
	return sum
}
