package order_test

import (
	"testing"

	"caliper/api"
)

// row is a decimal number, the pattern of a binary format's greatest number that isn't above it, and whether that is the same number.
type row struct {
	digits  string
	exp, to int
	low     api.Bits
	alike   bool
}

// rows are worked out apart from the oracle: by the words of layer 5's chapter, in fractions.
func rows() []row {
	return []row{
		{"1", -1, api.Half, api.Bits{0x2e66}, false},
		{"1", 0, api.Half, api.Bits{0x3c00}, true},
		{"3", -1, api.Half, api.Bits{0x34cc}, false},
		{"255", 0, api.Half, api.Bits{0x5bf8}, true},
		{"1", 2, api.Half, api.Bits{0x5640}, true},
		{"6550400", -2, api.Half, api.Bits{0x7bff}, true},
		{"6550401", -2, api.Half, api.Bits{0x7bff}, false},
		{"6550400000000000", -11, api.Half, api.Bits{0x7bff}, true},
		{"6550400000000001", -11, api.Half, api.Bits{0x7bff}, false},
		{"6550400000000000000000000000000000", -29, api.Half, api.Bits{0x7bff}, true},
		{"6550400000000000000000000000000001", -29, api.Half, api.Bits{0x7bff}, false},
		{"5960464", -14, api.Half, api.Bits{}, false},
		{"5960465", -14, api.Half, api.Bits{1}, false},
		{"5960464477539062", -23, api.Half, api.Bits{}, false},
		{"5960464477539063", -23, api.Half, api.Bits{1}, false},
		{"5960464477539062500000000000000000", -41, api.Half, api.Bits{1}, true},
		{"5960464477539062500000000000000001", -41, api.Half, api.Bits{1}, false},
		{"6103515", -11, api.Half, api.Bits{0x3ff}, false},
		{"6103516", -11, api.Half, api.Bits{0x400}, false},
		{"6103515625000000", -20, api.Half, api.Bits{0x400}, true},
		{"6103515625000001", -20, api.Half, api.Bits{0x400}, false},
		{"6103515625000000000000000000000000", -38, api.Half, api.Bits{0x400}, true},
		{"6103515625000000000000000000000001", -38, api.Half, api.Bits{0x400}, false},
		{"1", -1, api.Brain, api.Bits{0x3dcc}, false},
		{"1", 0, api.Brain, api.Bits{0x3f80}, true},
		{"3", -1, api.Brain, api.Bits{0x3e99}, false},
		{"255", 0, api.Brain, api.Bits{0x437f}, true},
		{"1", 2, api.Brain, api.Bits{0x42c8}, true},
		{"3389531", 32, api.Brain, api.Bits{0x7f7e}, false},
		{"3389532", 32, api.Brain, api.Bits{0x7f7f}, false},
		{"3389531389251535", 23, api.Brain, api.Bits{0x7f7e}, false},
		{"3389531389251536", 23, api.Brain, api.Bits{0x7f7f}, false},
		{"3389531389251535475904708003714878", 5, api.Brain, api.Bits{0x7f7e}, false},
		{"3389531389251535475904708003714879", 5, api.Brain, api.Bits{0x7f7f}, false},
		{"9183549", -47, api.Brain, api.Bits{}, false},
		{"9183550", -47, api.Brain, api.Bits{1}, false},
		{"9183549615799121", -56, api.Brain, api.Bits{}, false},
		{"9183549615799122", -56, api.Brain, api.Bits{1}, false},
		{"9183549615799121156005754197048794", -74, api.Brain, api.Bits{}, false},
		{"9183549615799121156005754197048795", -74, api.Brain, api.Bits{1}, false},
		{"1175494", -44, api.Brain, api.Bits{0x7f}, false},
		{"1175495", -44, api.Brain, api.Bits{0x80}, false},
		{"1175494350822287", -53, api.Brain, api.Bits{0x7f}, false},
		{"1175494350822288", -53, api.Brain, api.Bits{0x80}, false},
		{"1175494350822287507968736537222245", -71, api.Brain, api.Bits{0x7f}, false},
		{"1175494350822287507968736537222246", -71, api.Brain, api.Bits{0x80}, false},
		{"1", -1, api.Single, api.Bits{0x3dcccccc}, false},
		{"1", 0, api.Single, api.Bits{0x3f800000}, true},
		{"3", -1, api.Single, api.Bits{0x3e999999}, false},
		{"255", 0, api.Single, api.Bits{0x437f0000}, true},
		{"1", 2, api.Single, api.Bits{0x42c80000}, true},
		{"3402823", 32, api.Single, api.Bits{0x7f7ffffc}, false},
		{"3402824", 32, api.Single, api.Bits{0x7f7fffff}, false},
		{"3402823466385288", 23, api.Single, api.Bits{0x7f7ffffe}, false},
		{"3402823466385289", 23, api.Single, api.Bits{0x7f7fffff}, false},
		{"3402823466385288598117041834845169", 5, api.Single, api.Bits{0x7f7ffffe}, false},
		{"3402823466385288598117041834845170", 5, api.Single, api.Bits{0x7f7fffff}, false},
		{"1401298", -51, api.Single, api.Bits{}, false},
		{"1401299", -51, api.Single, api.Bits{1}, false},
		{"1401298464324817", -60, api.Single, api.Bits{}, false},
		{"1401298464324818", -60, api.Single, api.Bits{1}, false},
		{"1401298464324817070923729583289916", -78, api.Single, api.Bits{}, false},
		{"1401298464324817070923729583289917", -78, api.Single, api.Bits{1}, false},
		{"1175494", -44, api.Single, api.Bits{0x7ffffd}, false},
		{"1175495", -44, api.Single, api.Bits{0x800004}, false},
		{"1175494350822287", -53, api.Single, api.Bits{0x7fffff}, false},
		{"1175494350822288", -53, api.Single, api.Bits{0x800000}, false},
		{"1175494350822287507968736537222245", -71, api.Single, api.Bits{0x7fffff}, false},
		{"1175494350822287507968736537222246", -71, api.Single, api.Bits{0x800000}, false},
		{"1", -1, api.Double, api.Bits{0x3fb9999999999999}, false},
		{"1", 0, api.Double, api.Bits{0x3ff0000000000000}, true},
		{"3", -1, api.Double, api.Bits{0x3fd3333333333333}, false},
		{"255", 0, api.Double, api.Bits{0x406fe00000000000}, true},
		{"1", 2, api.Double, api.Bits{0x4059000000000000}, true},
		{"1797693", 302, api.Double, api.Bits{0x7fefffffd7b96099}, false},
		{"1797694", 302, api.Double, api.Bits{0x7fefffffffffffff}, false},
		{"1797693134862315", 293, api.Double, api.Bits{0x7feffffffffffffb}, false},
		{"1797693134862316", 293, api.Double, api.Bits{0x7fefffffffffffff}, false},
		{"1797693134862315708145274237317043", 275, api.Double, api.Bits{0x7feffffffffffffe}, false},
		{"1797693134862315708145274237317044", 275, api.Double, api.Bits{0x7fefffffffffffff}, false},
		{"4940656", -330, api.Double, api.Bits{}, false},
		{"4940657", -330, api.Double, api.Bits{1}, false},
		{"4940656458412465", -339, api.Double, api.Bits{}, false},
		{"4940656458412466", -339, api.Double, api.Bits{1}, false},
		{"4940656458412465441765687928682213", -357, api.Double, api.Bits{}, false},
		{"4940656458412465441765687928682214", -357, api.Double, api.Bits{1}, false},
		{"2225073", -314, api.Double, api.Bits{0xfffff986dbfdf}, false},
		{"2225074", -314, api.Double, api.Bits{0x1000001111e1e4}, false},
		{"2225073858507201", -323, api.Double, api.Bits{0xfffffffffffff}, false},
		{"2225073858507202", -323, api.Double, api.Bits{0x10000000000001}, false},
		{"2225073858507201383090232717332404", -341, api.Double, api.Bits{0xfffffffffffff}, false},
		{"2225073858507201383090232717332405", -341, api.Double, api.Bits{0x10000000000000}, false},
		{"1", -1, api.Quad, api.Bits{0x9999999999999999, 0x3ffb999999999999}, false},
		{"1", 0, api.Quad, api.Bits{0, 0x3fff000000000000}, true},
		{"3", -1, api.Quad, api.Bits{0x3333333333333333, 0x3ffd333333333333}, false},
		{"255", 0, api.Quad, api.Bits{0, 0x4006fe0000000000}, true},
		{"1", 2, api.Quad, api.Bits{0, 0x4005900000000000}, true},
		{"1189731495357231", 4917, api.Quad, api.Bits{0xa352bedfba578b15, 0x7ffeffffffffffff}, false},
		{"1189731495357232", 4917, api.Quad, api.Bits{0xffffffffffffffff, 0x7ffeffffffffffff}, false},
		{"1189731495357231765085759326628007", 4899, api.Quad, api.Bits{0xfffffffffffffffe, 0x7ffeffffffffffff}, false},
		{"1189731495357231765085759326628008", 4899, api.Quad, api.Bits{0xffffffffffffffff, 0x7ffeffffffffffff}, false},
		{"6475175119438025", -4981, api.Quad, api.Bits{}, false},
		{"6475175119438026", -4981, api.Quad, api.Bits{1}, false},
		{"6475175119438025110924438958227646", -4999, api.Quad, api.Bits{}, false},
		{"6475175119438025110924438958227647", -4999, api.Quad, api.Bits{1}, false},
		{"3362103143112093", -4947, api.Quad, api.Bits{0xf5264e01bc1a77b5, 0xffffffffffff}, false},
		{"3362103143112094", -4947, api.Quad, api.Bits{0xa94f90a8573d6c8, 0x1000000000000}, false},
		{"3362103143112093506262677817321752", -4965, api.Quad, api.Bits{0xffffffffffffffff, 0xffffffffffff}, false},
		{"3362103143112093506262677817321753", -4965, api.Quad, api.Bits{0, 0x1000000000000}, false},
		{"1", -1, api.Octo, api.Bits{0x9999999999999999, 0x9999999999999999, 0x9999999999999999, 0x3ffb999999999999}, false},
		{"1", 0, api.Octo, api.Bits{0, 0, 0, 0x3fff000000000000}, true},
		{"3", -1, api.Octo, api.Bits{0x3333333333333333, 0x3333333333333333, 0x3333333333333333, 0x3ffd333333333333}, false},
		{"255", 0, api.Octo, api.Bits{0, 0, 0, 0x4006fe0000000000}, true},
		{"1", 2, api.Octo, api.Bits{0, 0, 0, 0x4005900000000000}, true},
		{"1189731495357231", 4917, api.Octo, api.Bits{0x853773fec0fb95a4, 0xc6fdd76bf1e4c029, 0xa352bedfba578b15, 0x7ffeffffffffffff}, false},
		{"1189731495357232", 4917, api.Octo, api.Bits{0xffffffffffffffff, 0xffffffffffffffff, 0xffffffffffffffff, 0x7ffeffffffffffff}, false},
		{"1189731495357231765085759326628007", 4899, api.Octo, api.Bits{0x9a789c4524e41c6, 0xdbcf1919e0ad10f4, 0xfffffffffffffffe, 0x7ffeffffffffffff}, false},
		{"1189731495357231765085759326628008", 4899, api.Octo, api.Bits{0xffffffffffffffff, 0xffffffffffffffff, 0xffffffffffffffff, 0x7ffeffffffffffff}, false},
		{"1902882943371107", -5019, api.Octo, api.Bits{}, false},
		{"1902882943371108", -5019, api.Octo, api.Bits{1}, false},
		{"1902882943371107326418415226223493", -5037, api.Octo, api.Bits{}, false},
		{"1902882943371107326418415226223494", -5037, api.Octo, api.Bits{1}, false},
		{"3362103143112093", -4947, api.Octo, api.Bits{0xd1843f6241570607, 0x67c62ac31d6e99f0, 0xf5264e01bc1a77b5, 0xffffffffffff}, false},
		{"3362103143112094", -4947, api.Octo, api.Bits{0x45ae941d0537ee41, 0x5374c449f395f31b, 0xa94f90a8573d6c8, 0x1000000000000}, false},
		{"3362103143112093506262677817321752", -4965, api.Octo, api.Bits{0x7ed57601a07c77fa, 0x11c2591574e5a80a, 0xffffffffffffffff, 0xffffffffffff}, false},
		{"3362103143112093506262677817321753", -4965, api.Octo, api.Bits{0x3f381e4f3c85612d, 0x9d1d82a29d1e17ec, 0, 0x1000000000000}, false},
		{"1", 10, api.Single, api.Bits{0x501502f9}, true},
		{"1", 11, api.Single, api.Bits{0x51ba43b7}, false},
		{"16777217", 0, api.Single, api.Bits{0x4b800000}, false},
		{"16777216", 0, api.Single, api.Bits{0x4b800000}, true},
		{"1", 22, api.Double, api.Bits{0x4480f0cf064dd592}, true},
		{"1", 23, api.Double, api.Bits{0x44b52d02c7e14af6}, false},
		{"9007199254740993", 0, api.Double, api.Bits{0x4340000000000000}, false},
		{"1", 22, api.Quad, api.Bits{0x2000000000000000, 0x40480f0cf064dd59}, true},
		{"1", 23, api.Quad, api.Bits{0x6800000000000000, 0x404b52d02c7e14af}, true},
		{"1", 48, api.Quad, api.Bits{0x2bad2ce16256fe82, 0x409e5e531a0a1c87}, true},
		{"1", 49, api.Quad, api.Bits{0xf6987819baecbe22, 0x40a1b5e7e08ca3a8}, false},
		{"1", 22, api.Octo, api.Bits{0, 0, 0x2000000000000000, 0x40480f0cf064dd59}, true},
		{"1", 23, api.Octo, api.Bits{0, 0, 0x6800000000000000, 0x404b52d02c7e14af}, true},
		{"1", 103, api.Octo, api.Bits{0xeb21576743d77b5a, 0xbd58d6b0acc53ddb, 0x7fd88e497a83137a, 0x41551dbf316b346e}, true},
		{"1", 104, api.Octo, api.Bits{0xe5e9ad4114cd5a30, 0x6caf0c5cd7f68d52, 0x1fceb1dbd923d859, 0x4158652efdc6018a}, false},
	}
}

// mirrored fails unless two patterns lie like this, the other way round too, and the other way with the other sign.
func mirrored(t *testing.T, f format, a api.Bits, g format, b api.Bits, want int) {
	t.Helper()
	mixes(t, f.number, a, g.number, b, want, true)
	mixes(t, g.number, b, f.number, a, -want, true)
	mixes(t, f.number, f.negated(a), g.number, g.negated(b), -want, true)
	mixes(t, g.number, g.negated(b), f.number, f.negated(a), want, true)
	mixes(t, f.number, f.negated(a), g.number, b, -1, true)
	mixes(t, f.number, a, g.number, g.negated(b), 1, true)
}

// P20.1: rows written out, in every decimal format that has the number, as every member of its cohort.
func TestP20_1_Rows(t *testing.T) {
	for _, c := range rows() {
		tried, g := 0, numbered(c.to)
		for _, f := range decimals {
			if len(c.digits) > f.precision || c.exp < f.least || c.exp > f.most {
				continue
			}
			tried++
			for _, b := range f.members(parsed(c.digits, 10), c.exp) {
				if c.alike {
					mirrored(t, f, b, g, toBits(plus(toBig(c.low), -1)), 1)
					mirrored(t, f, b, g, c.low, 0)
				} else {
					mirrored(t, f, b, g, c.low, 1)
				}
				mirrored(t, f, b, g, toBits(plus(toBig(c.low), 1)), -1)
			}
		}
		if tried < 2 {
			t.Errorf("%se%d is of %d formats", c.digits, c.exp, tried)
		}
	}
}
