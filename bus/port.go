package bus

import "sallyport/api"

// port of the console. Its rows are arrays, so that a port that is assigned is a copy.
type port struct {
	input        [api.MaxInput]byte
	typed, taken int // bytes of input, from its beginning on: that are there; that are gone
	output       [api.MaxOutput]byte
	shows        int // bytes of output that are there
}

// add never makes room again where bytes were taken: all that was ever typed counts.
func (p *port) add(s string) { p.typed += copy(p.input[p.typed:], s) }

func (p *port) take() byte {
	if p.taken == p.typed {
		return 0
	}
	c := p.input[p.taken]
	p.taken++
	return c
}

func (p *port) put(c byte) {
	if p.shows == len(p.output) { // the first one makes room
		p.shows = copy(p.output[:], p.output[1:])
	}
	p.output[p.shows] = c
	p.shows++
}

func (p *port) shown() string { return string(p.output[:p.shows]) }
