package packing

const sumModulus = 65521

// sum is the sum of the bytes so far, which goes behind the blocks.
type sum struct {
	a, b uint32
}

func newSum() sum { return sum{a: 1} }

func (s *sum) add(t string) {
	a, b := s.a, s.b
	for i := 0; i < len(t); i++ {
		a = (a + uint32(t[i])) % sumModulus
		b = (b + a) % sumModulus
	}
	s.a, s.b = a, b
}

func (s sum) value() uint32 { return s.b<<16 | s.a }
