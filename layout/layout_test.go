package layout_test

import (
	"math"
	"testing"

	"caliper/layout"
)

func TestText(t *testing.T) {
	for _, c := range []struct {
		digits string
		place  int
		want   string
	}{
		{"", 0, ""},
		{"", 5, ""},
		{"0", 0, "0e0"},
		{"0", 5, "0e5"},
		{"7", -1, "7e-1"},
		{"000", 0, "0.00e0"},
		{"10", 3, "1.0e3"},
		{"120", 1, "1.20e1"},
		{"12345", -4966, "1.2345e-4966"},
		{"1", math.MaxInt, "1e9223372036854775807"},
		{"1", math.MinInt, "1e-9223372036854775808"},
	} {
		if text := layout.Text(c.digits, c.place); text != c.want {
			t.Errorf("Text(%q, %d): %q, not %q", c.digits, c.place, text, c.want)
		}
	}
}
