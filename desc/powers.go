package desc

import (
	"slices"
	"sync"
	"sync/atomic"

	"caliper/api"
	"caliper/nat"
)

const mostTogether = 64

// Powers is the powers that go with a format, made when they are first asked for. Any goroutines may call at one time. The zero Powers, which is no format's, answers as a nil one.
type Powers struct {
	format Info
	once   sync.Once
	made   atomic.Int32
	// list[i] has the exponent 2^i: every power is a product of some of them, and the list stays short.
	list     [][]uint64
	greatest []uint64
}

// NewPowers is the powers that go with a format: nil if it is none.
func NewPowers(number int) *Powers {
	format, errno := Of(number)
	if errno != api.OK {
		return nil
	}
	return &Powers{format: format}
}

// none says whether there is no format to have powers.
func (p *Powers) none() bool { return p == nil || p.format.Number == 0 }

// prepare works out what stays the same from call to call. None of these numbers is too long for layer 2.
func (p *Powers) prepare() {
	base := 10
	if p.format.Base == 2 {
		base = 5
	}
	for n := 1; n <= api.MostPower; n *= 2 {
		power, _ := nat.Power(base, n)
		p.list = append(p.list, power)
	}
	beyond, _ := nat.Power(p.format.Base, p.format.Precision)
	p.greatest, _ = nat.Sub(beyond, []uint64{1})
	p.made.Add(1)
}

// Power is the Base, or 5 of a binary format, to the power of n: ErrArg if n is below 0, ErrLong if it is above MostPower.
func (p *Powers) Power(n int) ([]uint64, api.Errno) {
	if p.none() {
		return nil, api.ErrArg
	}
	// Made is 1 from the first call on, so one that answers an error makes the list too.
	p.once.Do(p.prepare)
	if n < 0 {
		return nil, api.ErrArg
	}
	if n > api.MostPower {
		return nil, api.ErrLong
	}
	power := []uint64{1}
	for i, factor := range p.list {
		if n>>i&1 == 1 {
			power, _ = nat.Mul(power, factor)
		}
	}
	return power, api.OK
}

// Greatest is the greatest coefficient of the format: the Base to the power of its Precision, less 1.
func (p *Powers) Greatest() []uint64 {
	if p.none() {
		return nil
	}
	p.once.Do(p.prepare)
	return slices.Clone(p.greatest)
}

// Made is how often the list was made: 0 ahead of the first call of Power or Greatest, then 1.
func (p *Powers) Made() int {
	if p.none() {
		return 0
	}
	return int(p.made.Load())
}

// Together is the Power of each of at most 64 asks, asked for by a goroutine of its own, nothing where that is an error; of more asks it is nothing.
func (p *Powers) Together(asks []int) [][]uint64 {
	if p.none() || len(asks) > mostTogether {
		return nil
	}
	powers := make([][]uint64, len(asks))
	var workers sync.WaitGroup
	for i, n := range asks {
		workers.Go(func() { powers[i], _ = p.Power(n) })
	}
	workers.Wait()
	return powers
}
