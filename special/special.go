// Package special says, for every layer that converts, which formats and directions there are to convert into, and what becomes of infinities and NaNs.
package special

import (
	"caliper/api"
	"caliper/choice"
	"caliper/desc"
	"caliper/nat"
)

// Target is the format that is converted into: ErrArg if it is none with that base, or the direction is none. Infinities and NaNs aren't rounded, but such a direction is an error of theirs too.
func Target(number, base, direction int) (desc.Info, api.Errno) {
	info, errno := desc.Of(number)
	if errno != api.OK || info.Base != base || !choice.Known(direction) {
		return desc.Info{}, api.ErrArg
	}
	return info, api.OK
}

// Converted is an infinity or a NaN as another format has it, and the flags: a NaN doesn't signal there, and has the payload 0 where its own is too great. An infinity, which has no payload and doesn't signal, stays as it is.
func Converted(info desc.Info, d api.Datum) (api.Datum, int) {
	flags := 0
	if d.Signal {
		flags = api.Invalid
	}
	bound, _ := nat.Power(info.Base, info.Payload)
	if nat.Cmp(d.Coef[:], bound) >= 0 {
		d.Coef = api.Bits{}
	}
	d.Signal = false
	return d, flags
}
