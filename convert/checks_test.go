package convert_test

import (
	"testing"

	"caliper/api"
	"caliper/convert"
)

// converts fails unless the pattern becomes this one, with these flags.
func converts(t *testing.T, from, to, direction int, b, want api.Bits, wantFlags int) {
	t.Helper()
	got, flags, errno := convert.Convert(from, to, direction, b)
	if got != want || flags != wantFlags || errno != api.OK {
		t.Errorf("Convert(%d, %d, %d, %x): %x %d %d, not %x %d", from, to, direction, b, got, flags, errno, want, wantFlags)
	}
}

// always fails unless the pattern becomes this one in all directions.
func always(t *testing.T, from, to int, b, want api.Bits, flags int) {
	t.Helper()
	for _, direction := range directions {
		converts(t, from, to, direction, b, want, flags)
	}
}

// goes fails unless a pattern becomes what the oracle has, in every format and direction, with both signs.
func (f format) goes(t *testing.T, b api.Bits) {
	t.Helper()
	for _, g := range formats {
		f.into(t, g, b)
	}
}

// into is goes of one format.
func (f format) into(t *testing.T, g format, b api.Bits) {
	t.Helper()
	m := f.of(b)
	want := g.answers(m)
	for _, direction := range directions {
		wanted, flags := want(direction, m.sign)
		converts(t, f.number, g.number, direction, b, wanted, flags)
		wanted, flags = want(direction, !m.sign)
		converts(t, f.number, g.number, direction, f.negated(b), wanted, flags)
	}
}

// turn is into in one direction alone, and with the pattern's own sign.
func (f format) turn(t *testing.T, g format, direction int, b api.Bits) {
	t.Helper()
	m := f.of(b)
	wanted, flags := g.answers(m)(direction, m.sign)
	converts(t, f.number, g.number, direction, b, wanted, flags)
}

// reads fails unless the text becomes this pattern, with these flags.
func reads(t *testing.T, number, direction int, s string, want api.Bits, wantFlags int) {
	t.Helper()
	got, flags, errno := convert.Read(number, direction, s)
	if got != want || flags != wantFlags || errno != api.OK {
		t.Errorf("Read(%d, %d, %s): %x %d %d, not %x %d", number, direction, brief(s), got, flags, errno, want, wantFlags)
	}
}

// writes fails unless the pattern's text is this.
func writes(t *testing.T, number int, b api.Bits, want string) {
	t.Helper()
	if got, errno := convert.Write(number, b); got != want || errno != api.OK {
		t.Errorf("Write(%d, %x): %s %d, not %s", number, b, brief(got), errno, brief(want))
	}
}

// classes fails unless Class answers this.
func classes(t *testing.T, number int, b api.Bits, want int, wantSign, wantSignal bool) {
	t.Helper()
	class, sign, signal, errno := convert.Class(number, b)
	if class != want || sign != wantSign || signal != wantSignal || errno != api.OK {
		t.Errorf("Class(%d, %x): %d %t %t %d, not %d %t %t", number, b, class, sign, signal, errno, want, wantSign, wantSignal)
	}
}

// brief is a text that may be long, cut short.
func brief(s string) string {
	if len(s) > 80 {
		return s[:60] + ".."
	}
	return s
}

// refused fails unless Convert answers ErrArg and nothing else.
func refused(t *testing.T, from, to, direction int, b api.Bits) {
	t.Helper()
	got, flags, errno := convert.Convert(from, to, direction, b)
	if got != nothing || flags != 0 || errno != api.ErrArg {
		t.Errorf("Convert(%d, %d, %d, %x): %x %d %d, not ErrArg", from, to, direction, b, got, flags, errno)
	}
}

// refusedText fails unless Read answers that error and nothing else.
func refusedText(t *testing.T, number, direction int, s string, want api.Errno) {
	t.Helper()
	got, flags, errno := convert.Read(number, direction, s)
	if got != nothing || flags != 0 || errno != want {
		t.Errorf("Read(%d, %d, %s): %x %d %d, not the error %d", number, direction, brief(s), got, flags, errno, want)
	}
}

// refusedPattern fails unless Write and Class answer ErrArg and nothing else.
func refusedPattern(t *testing.T, number int, b api.Bits) {
	t.Helper()
	if s, errno := convert.Write(number, b); s != "" || errno != api.ErrArg {
		t.Errorf("Write(%d, %x): %s %d, not ErrArg", number, b, brief(s), errno)
	}
	if class, sign, signal, errno := convert.Class(number, b); class != 0 || sign || signal || errno != api.ErrArg {
		t.Errorf("Class(%d, %x): %d %t %t %d, not ErrArg", number, b, class, sign, signal, errno)
	}
}
