package crossout_test

import (
	"math/big"
	"testing"

	"caliper/api"
)

// The sides of a number between two neighbours of a decimal format.
const (
	exact = iota
	below
	middle
	above
)

// row is a binary number, the decimal one of a width that lies at it or next to it towards 0 (the greatest one of what is greater still), on which side of the middle to the next one it lies, and the flags that go with either. What lies at it is the member nearest to the exponent 0.
type row struct {
	from              int
	b                 api.Bits
	width             int
	coef              string
	exp, side         int
	lowFlag, nextFlag int
}

// rows are worked out apart from the oracle: by DOC.md's words, in fractions.
func rows() []row {
	return []row{
		{api.Half, api.Bits{0x3c00}, 32, "1", 0, exact, 0, 0},
		{api.Half, api.Bits{0x3c00}, 64, "1", 0, exact, 0, 0},
		{api.Half, api.Bits{0x3c00}, 128, "1", 0, exact, 0, 0},
		{api.Brain, api.Bits{0x3f80}, 32, "1", 0, exact, 0, 0},
		{api.Brain, api.Bits{0x3f80}, 64, "1", 0, exact, 0, 0},
		{api.Brain, api.Bits{0x3f80}, 128, "1", 0, exact, 0, 0},
		{api.Single, api.Bits{0x3f800000}, 32, "1", 0, exact, 0, 0},
		{api.Single, api.Bits{0x3f800000}, 64, "1", 0, exact, 0, 0},
		{api.Single, api.Bits{0x3f800000}, 128, "1", 0, exact, 0, 0},
		{api.Double, api.Bits{0x3ff0000000000000}, 32, "1", 0, exact, 0, 0},
		{api.Double, api.Bits{0x3ff0000000000000}, 64, "1", 0, exact, 0, 0},
		{api.Double, api.Bits{0x3ff0000000000000}, 128, "1", 0, exact, 0, 0},
		{api.Quad, api.Bits{0, 0x3fff000000000000}, 32, "1", 0, exact, 0, 0},
		{api.Quad, api.Bits{0, 0x3fff000000000000}, 64, "1", 0, exact, 0, 0},
		{api.Quad, api.Bits{0, 0x3fff000000000000}, 128, "1", 0, exact, 0, 0},
		{api.Octo, api.Bits{0, 0, 0, 0x3fff000000000000}, 32, "1", 0, exact, 0, 0},
		{api.Octo, api.Bits{0, 0, 0, 0x3fff000000000000}, 64, "1", 0, exact, 0, 0},
		{api.Octo, api.Bits{0, 0, 0, 0x3fff000000000000}, 128, "1", 0, exact, 0, 0},
		{api.Half, api.Bits{0x3800}, 32, "5", -1, exact, 0, 0},
		{api.Half, api.Bits{0x3800}, 128, "5", -1, exact, 0, 0},
		{api.Half, api.Bits{0x3400}, 32, "25", -2, exact, 0, 0},
		{api.Half, api.Bits{0x3400}, 128, "25", -2, exact, 0, 0},
		{api.Half, api.Bits{0x3e00}, 32, "15", -1, exact, 0, 0},
		{api.Half, api.Bits{0x3e00}, 128, "15", -1, exact, 0, 0},
		{api.Half, api.Bits{0x4780}, 32, "75", -1, exact, 0, 0},
		{api.Half, api.Bits{0x4780}, 128, "75", -1, exact, 0, 0},
		{api.Half, api.Bits{0x5640}, 32, "100", 0, exact, 0, 0},
		{api.Half, api.Bits{0x5640}, 128, "100", 0, exact, 0, 0},
		{api.Half, api.Bits{0x7bff}, 32, "65504", 0, exact, 0, 0},
		{api.Half, api.Bits{0x7bff}, 64, "65504", 0, exact, 0, 0},
		{api.Half, api.Bits{0x7bff}, 128, "65504", 0, exact, 0, 0},
		{api.Half, api.Bits{0x1400}, 32, "9765625", -10, exact, 0, 0},
		{api.Half, api.Bits{0x1400}, 64, "9765625", -10, exact, 0, 0},
		{api.Half, api.Bits{0x1400}, 128, "9765625", -10, exact, 0, 0},
		{api.Half, api.Bits{0x3c01}, 32, "1000976", -6, above, inexact, inexact},
		{api.Half, api.Bits{0x3c01}, 64, "10009765625", -10, exact, 0, 0},
		{api.Half, api.Bits{0x3c08}, 32, "1007812", -6, middle, inexact, inexact},
		{api.Half, api.Bits{0x3c08}, 64, "10078125", -7, exact, 0, 0},
		{api.Half, api.Bits{0x3c18}, 32, "1023437", -6, middle, inexact, inexact},
		{api.Half, api.Bits{0x3c18}, 64, "10234375", -7, exact, 0, 0},
		{api.Half, api.Bits{1}, 32, "5960464", -14, below, inexact, inexact},
		{api.Half, api.Bits{1}, 64, "5960464477539062", -23, middle, inexact, inexact},
		{api.Half, api.Bits{1}, 128, "59604644775390625", -24, exact, 0, 0},
		{api.Half, api.Bits{2}, 32, "1192092", -13, above, inexact, inexact},
		{api.Half, api.Bits{2}, 64, "1192092895507812", -22, middle, inexact, inexact},
		{api.Half, api.Bits{2}, 128, "11920928955078125", -23, exact, 0, 0},
		{api.Half, api.Bits{3}, 32, "1788139", -13, below, inexact, inexact},
		{api.Half, api.Bits{3}, 64, "1788139343261718", -22, above, inexact, inexact},
		{api.Half, api.Bits{3}, 128, "178813934326171875", -24, exact, 0, 0},
		{api.Half, api.Bits{0x3ff}, 32, "6097555", -11, below, inexact, inexact},
		{api.Half, api.Bits{0x3ff}, 64, "6097555160522460", -20, above, inexact, inexact},
		{api.Half, api.Bits{0x3ff}, 128, "60975551605224609375", -24, exact, 0, 0},
		{api.Half, api.Bits{0x400}, 32, "6103515", -11, above, inexact, inexact},
		{api.Half, api.Bits{0x400}, 64, "6103515625", -14, exact, 0, 0},
		{api.Half, api.Bits{0x400}, 128, "6103515625", -14, exact, 0, 0},
		{api.Half, api.Bits{0x2e66}, 32, "9997558", -8, above, inexact, inexact},
		{api.Half, api.Bits{0x2e66}, 64, "999755859375", -13, exact, 0, 0},
		{api.Half, api.Bits{0x2e66}, 128, "999755859375", -13, exact, 0, 0},
		{api.Brain, api.Bits{0x7f7f}, 32, "3389531", 32, below, inexact, inexact},
		{api.Brain, api.Bits{0x7f7f}, 64, "3389531389251535", 23, below, inexact, inexact},
		{api.Brain, api.Bits{0x7f7f}, 128, "3389531389251535475904708003714878", 5, above, inexact, inexact},
		{api.Brain, api.Bits{1}, 32, "9183549", -47, above, inexact, inexact},
		{api.Brain, api.Bits{1}, 64, "9183549615799121", -56, below, inexact, inexact},
		{api.Brain, api.Bits{1}, 128, "9183549615799121156005754197048794", -74, below, inexact, inexact},
		{api.Brain, api.Bits{0x80}, 32, "1175494", -44, below, inexact, inexact},
		{api.Brain, api.Bits{0x80}, 64, "1175494350822287", -53, above, inexact, inexact},
		{api.Brain, api.Bits{0x80}, 128, "1175494350822287507968736537222245", -71, above, inexact, inexact},
		{api.Brain, api.Bits{0x3dcd}, 32, "1000976", -7, above, inexact, inexact},
		{api.Brain, api.Bits{0x3dcd}, 64, "10009765625", -11, exact, 0, 0},
		{api.Brain, api.Bits{0x3dcd}, 128, "10009765625", -11, exact, 0, 0},
		{api.Brain, api.Bits{0x437f}, 32, "255", 0, exact, 0, 0},
		{api.Brain, api.Bits{0x5080}, 32, "1717986", 4, above, inexact, inexact},
		{api.Brain, api.Bits{0x5080}, 64, "17179869184", 0, exact, 0, 0},
		{api.Single, api.Bits{0x3dcccccd}, 32, "1000000", -7, below, inexact, inexact},
		{api.Single, api.Bits{0x3dcccccd}, 64, "1000000014901161", -16, below, inexact, inexact},
		{api.Single, api.Bits{0x3dcccccd}, 128, "100000001490116119384765625", -27, exact, 0, 0},
		{api.Single, api.Bits{0x4b18967f}, 32, "9999999", 0, exact, 0, 0},
		{api.Single, api.Bits{0x4b189680}, 32, "1000000", 1, exact, 0, 0},
		{api.Single, api.Bits{0x4b189681}, 32, "1000000", 1, below, inexact, inexact},
		{api.Single, api.Bits{0x4b189685}, 32, "1000000", 1, middle, inexact, inexact},
		{api.Single, api.Bits{0x4b18968f}, 32, "1000001", 1, middle, inexact, inexact},
		{api.Single, api.Bits{0x4b7fffff}, 32, "1677721", 1, middle, inexact, inexact},
		{api.Single, api.Bits{0x4cbebc1f}, 32, "9999999", 1, below, inexact, inexact},
		{api.Single, api.Bits{0x4cbebc20}, 32, "1000000", 2, exact, 0, 0},
		{api.Single, api.Bits{0x501502f9}, 32, "1000000", 4, exact, 0, 0},
		{api.Single, api.Bits{0x4b189680}, 64, "10000000", 0, exact, 0, 0},
		{api.Single, api.Bits{0x4b7fffff}, 64, "16777215", 0, exact, 0, 0},
		{api.Single, api.Bits{0x501502f9}, 64, "10000000000", 0, exact, 0, 0},
		{api.Single, api.Bits{0x7f7fffff}, 32, "3402823", 32, below, inexact, inexact},
		{api.Single, api.Bits{0x7f7fffff}, 64, "3402823466385288", 23, above, inexact, inexact},
		{api.Single, api.Bits{0x7f7fffff}, 128, "3402823466385288598117041834845169", 5, below, inexact, inexact},
		{api.Single, api.Bits{1}, 32, "1401298", -51, below, inexact, inexact},
		{api.Single, api.Bits{1}, 64, "1401298464324817", -60, below, inexact, inexact},
		{api.Single, api.Bits{1}, 128, "1401298464324817070923729583289916", -78, below, inexact, inexact},
		{api.Single, api.Bits{0x7fffff}, 32, "1175494", -44, below, inexact, inexact},
		{api.Single, api.Bits{0x7fffff}, 64, "1175494210692441", -53, below, inexact, inexact},
		{api.Single, api.Bits{0x7fffff}, 128, "1175494210692441075487029444849287", -71, below, inexact, inexact},
		{api.Single, api.Bits{0x800000}, 32, "1175494", -44, below, inexact, inexact},
		{api.Single, api.Bits{0x800000}, 64, "1175494350822287", -53, above, inexact, inexact},
		{api.Single, api.Bits{0x800000}, 128, "1175494350822287507968736537222245", -71, above, inexact, inexact},
		{api.Single, api.Bits{0x3f800001}, 32, "1000000", -6, below, inexact, inexact},
		{api.Single, api.Bits{0x3f800001}, 64, "1000000119209289", -15, above, inexact, inexact},
		{api.Single, api.Bits{0x3f800001}, 128, "100000011920928955078125", -23, exact, 0, 0},
		{api.Double, api.Bits{0x3fb999999999999a}, 32, "1000000", -7, below, inexact, inexact},
		{api.Double, api.Bits{0x3fb999999999999a}, 64, "1000000000000000", -16, below, inexact, inexact},
		{api.Double, api.Bits{0x3fb999999999999a}, 128, "1000000000000000055511151231257827", -34, below, inexact, inexact},
		{api.Double, api.Bits{0x4341c37937e07fff}, 64, "9999999999999998", 0, exact, 0, 0},
		{api.Double, api.Bits{0x4341c37937e08000}, 64, "1000000000000000", 1, exact, 0, 0},
		{api.Double, api.Bits{0x4341c37937e08001}, 64, "1000000000000000", 1, below, inexact, inexact},
		{api.Double, api.Bits{0x4341c37937e08002}, 64, "1000000000000000", 1, below, inexact, inexact},
		{api.Double, api.Bits{0x4341c37937e08005}, 64, "1000000000000001", 1, exact, 0, 0},
		{api.Double, api.Bits{0x4341c37937e0800a}, 64, "1000000000000002", 1, exact, 0, 0},
		{api.Double, api.Bits{0x4376345785d8a000}, 64, "1000000000000000", 2, exact, 0, 0},
		{api.Double, api.Bits{0x4480f0cf064dd592}, 64, "1000000000000000", 7, exact, 0, 0},
		{api.Double, api.Bits{0x4197d783ec000000}, 32, "9999999", 1, middle, inexact, inexact},
		{api.Double, api.Bits{0x4197d783c4000000}, 32, "9999998", 1, middle, inexact, inexact},
		{api.Double, api.Bits{0x416312cff0000000}, 32, "9999999", 0, middle, inexact, inexact},
		{api.Double, api.Bits{0x416312cfd0000000}, 32, "9999998", 0, middle, inexact, inexact},
		{api.Double, api.Bits{0x4197d783ebffffff}, 32, "9999999", 1, below, inexact, inexact},
		{api.Double, api.Bits{0x4197d783ec000001}, 32, "9999999", 1, above, inexact, inexact},
		{api.Double, api.Bits{0x44b52d02c7e14af6}, 32, "9999999", 16, above, inexact, inexact},
		{api.Double, api.Bits{0x44b52d02c7e14af6}, 64, "9999999999999999", 7, below, inexact, inexact},
		{api.Double, api.Bits{0x44b52d02c7e14af6}, 128, "99999999999999991611392", 0, exact, 0, 0},
		{api.Double, api.Bits{0x44b52d02c7e14af7}, 32, "1000000", 17, below, inexact, inexact},
		{api.Double, api.Bits{0x44b52d02c7e14af7}, 64, "1000000000000000", 8, below, inexact, inexact},
		{api.Double, api.Bits{0x44b52d02c7e14af7}, 128, "100000000000000008388608", 0, exact, 0, 0},
		{api.Double, api.Bits{0x2ae665bf1d3e6a8c}, 32, "0", -101, below, underflow, underflow},
		{api.Double, api.Bits{0x2ae665bf1d3e6a8d}, 32, "0", -101, above, underflow, underflow},
		{api.Double, api.Bits{0x2af665bf1d3e6a8c}, 32, "0", -101, above, underflow, underflow},
		{api.Double, api.Bits{0x2af665bf1d3e6a8d}, 32, "1", -101, below, underflow, underflow},
		{api.Double, api.Bits{0x2b00cc4f55eecfe9}, 32, "1", -101, below, underflow, underflow},
		{api.Double, api.Bits{0x2b00cc4f55eecfea}, 32, "1", -101, above, underflow, underflow},
		{api.Double, api.Bits{0x2c355c2076bf9a55}, 32, "999999", -101, above, underflow, underflow},
		{api.Double, api.Bits{0x2c355c2076bf9a56}, 32, "1000000", -101, below, inexact, inexact},
		{api.Double, api.Bits{0x2c355c1fc391a16b}, 32, "999999", -101, below, underflow, underflow},
		{api.Double, api.Bits{0x2c355c1fc391a16c}, 32, "999999", -101, above, underflow, underflow},
		{api.Double, api.Bits{0x5412ba093e5c6114}, 32, "9999998", 90, above, inexact, inexact},
		{api.Double, api.Bits{0x5412ba093e5c6115}, 32, "9999999", 90, below, inexact, overflow},
		{api.Double, api.Bits{0x5412ba094e11e899}, 32, "9999999", 90, below, inexact, overflow},
		{api.Double, api.Bits{0x5412ba094e11e89a}, 32, "9999999", 90, above, inexact, overflow},
		{api.Double, api.Bits{0x5412ba095dc7701d}, 32, "9999999", 90, above, inexact, overflow},
		{api.Double, api.Bits{0x5412ba095dc7701e}, 32, "9999999", 90, above, overflow, overflow},
		{api.Double, api.Bits{1}, 32, "0", -101, below, underflow, underflow},
		{api.Double, api.Bits{1}, 64, "4940656458412465", -339, below, inexact, inexact},
		{api.Double, api.Bits{1}, 128, "4940656458412465441765687928682213", -357, above, inexact, inexact},
		{api.Double, api.Bits{0xfffffffffffff}, 32, "0", -101, below, underflow, underflow},
		{api.Double, api.Bits{0xfffffffffffff}, 64, "2225073858507200", -323, above, inexact, inexact},
		{api.Double, api.Bits{0xfffffffffffff}, 128, "2225073858507200889024586876085859", -341, above, inexact, inexact},
		{api.Double, api.Bits{0x10000000000000}, 32, "0", -101, below, underflow, underflow},
		{api.Double, api.Bits{0x10000000000000}, 64, "2225073858507201", -323, below, inexact, inexact},
		{api.Double, api.Bits{0x10000000000000}, 128, "2225073858507201383090232717332404", -341, below, inexact, inexact},
		{api.Double, api.Bits{0x7fefffffffffffff}, 32, "9999999", 90, above, overflow, overflow},
		{api.Double, api.Bits{0x7fefffffffffffff}, 64, "1797693134862315", 293, above, inexact, inexact},
		{api.Double, api.Bits{0x7fefffffffffffff}, 128, "1797693134862315708145274237317043", 275, above, inexact, inexact},
		{api.Quad, api.Bits{0x378d8e63ffffffff, 0x406fed09bead87c0}, 128, "9999999999999999999999999999999999", 0, exact, 0, 0},
		{api.Quad, api.Bits{0x378d8e6400000000, 0x406fed09bead87c0}, 128, "1000000000000000000000000000000000", 1, exact, 0, 0},
		{api.Quad, api.Bits{0x378d8e6400000000, 0x406fed09bead87c0}, 64, "1000000000000000", 19, exact, 0, 0},
		{api.Quad, api.Bits{0x378d8e6400000001, 0x406fed09bead87c0}, 128, "1000000000000000000000000000000000", 1, below, inexact, inexact},
		{api.Quad, api.Bits{0x378d8e6400000005, 0x406fed09bead87c0}, 128, "1000000000000000000000000000000000", 1, middle, inexact, inexact},
		{api.Quad, api.Bits{0x378d8e640000000f, 0x406fed09bead87c0}, 128, "1000000000000000000000000000000001", 1, middle, inexact, inexact},
		{api.Quad, api.Bits{0xf800000000000000, 0x40341c37937e07ff}, 64, "9999999999999999", 0, exact, 0, 0},
		{api.Quad, api.Bits{0xfc00000000000000, 0x40341c37937e07ff}, 64, "9999999999999999", 0, middle, inexact, inexact},
		{api.Quad, api.Bits{0xf400000000000000, 0x40341c37937e07ff}, 64, "9999999999999998", 0, middle, inexact, inexact},
		{api.Quad, api.Bits{0x9999999999999999, 0x3ffb999999999999}, 128, "9999999999999999999999999999999999", -35, below, inexact, inexact},
		{api.Quad, api.Bits{0x999999999999999a, 0x3ffb999999999999}, 128, "1000000000000000000000000000000000", -34, below, inexact, inexact},
		{api.Quad, api.Bits{0xd04df2bb5ffcb8fb, 0x3ad3d4bb49d85480}, 64, "0", -398, below, underflow, underflow},
		{api.Quad, api.Bits{0xd04df2bb5ffcb8fc, 0x3ad3d4bb49d85480}, 64, "0", -398, above, underflow, underflow},
		{api.Quad, api.Bits{0xd04df2bb5ffcb8fb, 0x3ad4d4bb49d85480}, 64, "0", -398, above, underflow, underflow},
		{api.Quad, api.Bits{0xd04df2bb5ffcb8fc, 0x3ad4d4bb49d85480}, 64, "1", -398, below, underflow, underflow},
		{api.Quad, api.Bits{0x94dad6250fff96c0, 0x3b06a05139c5bac3}, 64, "999999999999999", -398, above, underflow, underflow},
		{api.Quad, api.Bits{0x94dad6250fff96c1, 0x3b06a05139c5bac3}, 64, "1000000000000000", -398, below, inexact, inexact},
		{api.Quad, api.Bits{0x9b60e91dc03ab30a, 0x44fdebeeb7a9b56d}, 64, "9999999999999998", 369, above, inexact, inexact},
		{api.Quad, api.Bits{0x9b60e91dc03ab30b, 0x44fdebeeb7a9b56d}, 64, "9999999999999999", 369, below, inexact, overflow},
		{api.Quad, api.Bits{0xa24d48c0e0101aeb, 0x44fdebeeb7a9b56d}, 64, "9999999999999999", 369, below, inexact, overflow},
		{api.Quad, api.Bits{0xa24d48c0e0101aec, 0x44fdebeeb7a9b56d}, 64, "9999999999999999", 369, above, inexact, overflow},
		{api.Quad, api.Bits{0xa939a863ffe582cc, 0x44fdebeeb7a9b56d}, 64, "9999999999999999", 369, above, inexact, overflow},
		{api.Quad, api.Bits{0xa939a863ffe582cd, 0x44fdebeeb7a9b56d}, 64, "9999999999999999", 369, above, overflow, overflow},
		{api.Quad, api.Bits{1}, 32, "0", -101, below, underflow, underflow},
		{api.Quad, api.Bits{1}, 64, "0", -398, below, underflow, underflow},
		{api.Quad, api.Bits{1}, 128, "6475175119438025110924438958227646", -4999, above, inexact, inexact},
		{api.Quad, api.Bits{0xffffffffffffffff, 0xffffffffffff}, 128, "3362103143112093506262677817321751", -4965, above, inexact, inexact},
		{api.Quad, api.Bits{0, 0x1000000000000}, 128, "3362103143112093506262677817321752", -4965, above, inexact, inexact},
		{api.Quad, api.Bits{0xffffffffffffffff, 0x7ffeffffffffffff}, 32, "9999999", 90, above, overflow, overflow},
		{api.Quad, api.Bits{0xffffffffffffffff, 0x7ffeffffffffffff}, 64, "9999999999999999", 369, above, overflow, overflow},
		{api.Quad, api.Bits{0xffffffffffffffff, 0x7ffeffffffffffff}, 128, "1189731495357231765085759326628007", 4899, below, inexact, inexact},
		{api.Octo, api.Bits{0, 0, 0x378d8e63ffffffff, 0x406fed09bead87c0}, 128, "9999999999999999999999999999999999", 0, exact, 0, 0},
		{api.Octo, api.Bits{0, 0xb000000000000000, 0x22b878fe7fffffff, 0x40733426172c74d8}, 128, "9999999999999999999999999999999999", 1, middle, inexact, inexact},
		{api.Octo, api.Bits{0, 0x1000000000000000, 0x22b878fe7fffffff, 0x40733426172c74d8}, 128, "9999999999999999999999999999999998", 1, middle, inexact, inexact},
		{api.Octo, api.Bits{0, 0xa000000000000000, 0x22b878fe7fffffff, 0x40733426172c74d8}, 128, "9999999999999999999999999999999999", 1, below, inexact, inexact},
		{api.Octo, api.Bits{0, 0xc000000000000000, 0x22b878fe7fffffff, 0x40733426172c74d8}, 128, "9999999999999999999999999999999999", 1, above, inexact, inexact},
		{api.Octo, api.Bits{0, 0, 0x4bfabb9f56100000, 0x4083d6329f1c35ca}, 128, "1000000000000000000000000000000000", 7, exact, 0, 0},
		{api.Octo, api.Bits{0x3c0859026474a380, 0xf3e560e9e45cee56, 0x9080a909849e059b, 0x41412ba094e11e89}, 32, "9999999", 90, middle, inexact, overflow},
		{api.Octo, api.Bits{0x38eda59164d8ea80, 0xb364955b9c9054a7, 0xfdeb0c94c694af0a, 0x41412ba092ea6d98}, 32, "9999998", 90, middle, inexact, inexact},
		{api.Octo, api.Bits{0xba7aff49e4a6c700, 0x53a4fb22c076a17e, 0x4735dacf25995a53, 0x41412ba093e5c611}, 32, "9999999", 90, exact, 0, 0},
		{api.Octo, api.Bits{0xbd95b2bae4428000, 0x9425c6b108433b2d, 0xd9cb7743e3a2b0e4, 0x41412ba095dc7701}, 32, "9999999", 90, above, overflow, overflow},
		{api.Octo, api.Bits{0x726037e94d00000, 0x4cfd274900560e4f, 0xedd13c7fdbb18643, 0x413a7f85de8ad5c4}, 32, "1000000", 89, exact, 0, 0},
		{api.Octo, api.Bits{0x3c0859026474a37f, 0xf3e560e9e45cee56, 0x9080a909849e059b, 0x41412ba094e11e89}, 32, "9999999", 90, below, inexact, overflow},
		{api.Octo, api.Bits{0x3c0859026474a381, 0xf3e560e9e45cee56, 0x9080a909849e059b, 0x41412ba094e11e89}, 32, "9999999", 90, above, inexact, overflow},
		{api.Octo, api.Bits{0xa906e232dae7cfa8, 0xaf956cefc8c85d2f, 0xa24d48c0e0101aeb, 0x44fdebeeb7a9b56d}, 64, "9999999999999999", 369, below, inexact, overflow},
		{api.Octo, api.Bits{0xa906e232dae7cfa9, 0xaf956cefc8c85d2f, 0xa24d48c0e0101aeb, 0x44fdebeeb7a9b56d}, 64, "9999999999999999", 369, above, inexact, overflow},
		{api.Octo, api.Bits{0xc6f8e9c94b583ddb, 0x57f2009d6d38ea5d, 0xcac88f273045b92d, 0x3eae665bf1d3e6a8}, 32, "0", -101, below, underflow, underflow},
		{api.Octo, api.Bits{0xc6f8e9c94b583ddc, 0x57f2009d6d38ea5d, 0xcac88f273045b92d, 0x3eae665bf1d3e6a8}, 32, "0", -101, above, underflow, underflow},
		{api.Octo, api.Bits{0x1ed12851b53878ac, 0xd2903e952ba95780, 0xd04df2bb5ffcb8fb, 0x3ad3d4bb49d85480}, 64, "0", -398, below, underflow, underflow},
		{api.Octo, api.Bits{0x1ed12851b53878ad, 0xd2903e952ba95780, 0xd04df2bb5ffcb8fb, 0x3ad3d4bb49d85480}, 64, "0", -398, above, underflow, underflow},
		{api.Octo, api.Bits{1}, 32, "0", -101, below, underflow, underflow},
		{api.Octo, api.Bits{1}, 64, "0", -398, below, underflow, underflow},
		{api.Octo, api.Bits{1}, 128, "1902882943371107326418415226223493", -5037, below, inexact, inexact},
		{api.Octo, api.Bits{0xffffffffffffffff, 0xffffffffffffffff, 0xffffffffffffffff, 0xffffffffffff}, 128, "3362103143112093506262677817321752", -4965, above, inexact, inexact},
		{api.Octo, api.Bits{0, 0, 0, 0x1000000000000}, 128, "3362103143112093506262677817321752", -4965, above, inexact, inexact},
		{api.Octo, api.Bits{0xffffffffffffffff, 0xffffffffffffffff, 0xffffffffffffffff, 0x7ffeffffffffffff}, 32, "9999999", 90, above, overflow, overflow},
		{api.Octo, api.Bits{0xffffffffffffffff, 0xffffffffffffffff, 0xffffffffffffffff, 0x7ffeffffffffffff}, 64, "9999999999999999", 369, above, overflow, overflow},
		{api.Octo, api.Bits{0xffffffffffffffff, 0xffffffffffffffff, 0xffffffffffffffff, 0x7ffeffffffffffff}, 128, "1189731495357231765085759326628007", 4899, below, inexact, inexact},
	}
}

// P19.1: rows written out, into the plain format and the dense one.
func TestP19_1_Rows(t *testing.T) {
	for _, c := range rows() {
		for _, g := range of(c.width) {
			sources[c.from-1].lies(t, g, toBig(c.b), spot{parsed(c.coef, 10), c.exp, c.side, c.lowFlag, c.nextFlag})
		}
	}
}

// spot is where a binary number lies among those of a decimal format: at coef times 10^exp, or between that and the next one.
type spot struct {
	coef              *big.Int
	exp, side         int
	lowFlag, nextFlag int
}

// next is the number above the spot's: infinite, where there is none.
func (g target) next(s spot) api.Datum {
	coef, exp := plus(s.coef, 1), s.exp
	if coef.Cmp(ten(g.precision)) == 0 {
		coef, exp = ten(g.precision-1), exp+1
	}
	if exp > g.most {
		return api.Datum{Class: api.Infinite}
	}
	return finite(false, coef, exp)
}

// lies fails unless a pattern without sign, whose number lies on that spot, becomes what it must in each direction, with both signs.
func (f source) lies(t *testing.T, g target, pattern *big.Int, s spot) {
	t.Helper()
	low, next := finite(false, s.coef, s.exp), g.next(s)
	if s.side == exact {
		next = low
	}
	even, away := low, low
	switch {
	case s.side == above:
		even, away = next, next
	case s.side == middle && s.coef.Bit(0) == 1:
		even, away = next, next
	case s.side == middle:
		away = next
	}
	for _, sign := range signs {
		up, down := next, low
		if sign {
			up, down = low, next
		}
		for i, want := range []api.Datum{even, away, low, up, down} {
			flags := s.lowFlag
			if want == next {
				flags = s.nextFlag
			}
			want.Sign = sign
			converts(t, f.number, g.number, directions[i], f.signed(pattern, sign), g.made(want), flags)
		}
	}
}
