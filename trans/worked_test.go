package trans_test

import "shingle/api"

// worked out after the chapters' words, by themselves, without any package of the project.
type worked struct {
	name   string
	s      api.Shape
	p      api.Plane
	inter  bool
	qs     []int
	shifts [][]int
	hex    string
	back   []int
}

func workedOut() []worked {
	return []worked{
		{"one number", plain(api.Dubuc97, 0),
			numbers(1, 1, 1), false, nil, nil,
			"3020",
			[]int{1}},
		{"by itself", plain(api.LeGall, 0),
			numbers(3, 2, 17, -4, 0, 9, -120, 3), false, []int{0}, nil,
			"0704c52b1bcf620760",
			[]int{17, -4, 0, 9, -120, 3}},
		{"by itself, coarse", plain(api.LeGall, 0),
			numbers(3, 2, 17, -4, 0, 9, -120, 3), false, []int{9}, nil,
			"489008a733e89a",
			[]int{17, -5, 2, 10, -119, 4}},
		{"by others, coarse", plain(api.LeGall, 0),
			numbers(3, 2, 17, -4, 0, 9, -120, 3), true, []int{9}, nil,
			"08900b655f",
			[]int{16, 0, 0, 7, -121, 0}},
		{"one level", plain(api.Dubuc137, 1),
			numbers(4, 4, 40, -7, 0, 3, 12, 5, -2, 0, 0, 0, 9, -1, 100, 0, 0, -60), false, []int{4}, nil,
			"18c011dea7a063918063ceac08c01b6780",
			[]int{41, -8, 0, 3, 12, 4, -3, 0, 0, 0, 9, 0, 101, 0, 0, -61}},
		{"one level, by others", plain(api.Haar, 1),
			numbers(4, 4, 40, -7, 0, 3, 12, 5, -2, 0, 0, 0, 9, -1, 100, 0, 0, -60), true, []int{4}, nil,
			"18c011d2404063918063ceac08c01b6780",
			[]int{41, -7, 0, 3, 13, 5, -3, 0, 0, 0, 9, 0, 101, 0, 0, -61}},
		{"a quantiser for each band", plain(api.HaarOne, 1),
			numbers(4, 4, 40, -7, 0, 3, 12, 5, -2, 0, 0, 0, 9, -1, 100, 0, 0, -60), false, []int{2, 12, 7, 20}, nil,
			"4b45606cc6cc806040d3902230e4",
			[]int{40, -7, 0, 0, 12, 5, 0, 0, 0, 0, 0, 0, 99, 0, 0, -48}},
		{"the last quantiser for those behind it", plain(api.HaarOne, 2),
			numbers(8, 4, 0, -44, -5, -7, 0, 11, 15, 2, 0, -4, 12, -153, 0, 0, 0, 0, -51, 21, -4, 0, 26, 15, 2, 0, -7, -5, -242, 0, 0, 0, 28, -108), true, []int{3, 8}, nil,
			"61a1a020c03420c09808300843e00830af5a8058304720ff3a2580483058034b30e0",
			[]int{0, -45, -6, -6, 0, 10, 14, 0, 0, -6, 14, -154, 0, 0, 0, 0, -50, 22, -6, 0, 26, 14, 0, 0, -6, -6, -242, 0, 0, 0, 30, -110}},
		{"more quantisers than bands", plain(api.Dubuc97, 0),
			numbers(3, 2, 17, -4, 0, 9, -120, 3), true, []int{5, 60, 0}, nil,
			"1a4058b36bb5",
			[]int{16, -4, 0, 9, -121, 4}},
		{"quantisers below 0 and above 60", plain(api.Dubuc97, 1),
			numbers(4, 4, 40, -7, 0, 3, 12, 5, -2, 0, 0, 0, 9, -1, 100, 0, 0, -60), true, []int{-5, 61, -9223372036854775808, 9223372036854775807}, nil,
			"1c10b5e00f800cce998080",
			[]int{40, -7, 0, 0, 12, 5, 0, 0, 0, 0, 0, 0, 100, 0, 0, 0}},
		{"two levels, with parents", plain(api.Dubuc97, 2),
			numbers(8, 8, -5, 11, 0, -153, 0, 21, 26, 0, -242, 0, -72, -12, 0, 0, 0, 0, 0, 108, 24, -35, 338, 80, 0, -78, 0, -30, 0, 52, 50, -275, 0, -144, 28, 0, -91, 75, -44, 0, 0, -4, 105, -91, 0, 308, -48, 0, -25, 70, 52, 0, -330, 0, -234, 0, 112, 338, -25, 264, 36, 0, 0, 0, 0, 0), false, []int{6}, nil,
			"4ac0349430af601ac0a719d6ac0ac08813621ac0067c5c5046b0811562e776efa699219fa2cc01ac16b28bf507752e830452f2bdb17d26f646b002134d3c6db7caec887494c0",
			[]int{-4, 11, 0, -153, 0, 21, 26, 0, -242, 1, -73, -13, 0, 0, 0, 0, 0, 109, 24, -35, 337, 81, 0, -79, 0, -29, 0, 51, 51, -277, 0, -145, 29, 0, -92, 76, -46, 0, 0, -4, 106, -92, 0, 310, -48, 0, -26, 70, 51, 0, -332, 0, -235, 0, 112, 337, -26, 266, 37, 0, 0, 0, 0, 0}},
		{"parts", api.Shape{Filter: api.LeGall, Depth: 2, Across: [7]int{2, 1, 3}, Down: [7]int{1, 2, 2}},
			numbers(8, 8, -5, 11, 0, -153, 0, 21, 26, 0, -242, 0, -72, -12, 0, 0, 0, 0, 0, 108, 24, -35, 338, 80, 0, -78, 0, -30, 0, 52, 50, -275, 0, -144, 28, 0, -91, 75, -44, 0, 0, -4, 105, -91, 0, 308, -48, 0, -25, 70, 52, 0, -330, 0, -234, 0, 112, 338, -25, 264, 36, 0, 0, 0, 0, 0), false, []int{10}, nil,
			"18b0445874f008b0510d7b08b0416be008b00ccc84422c8286d5099564f7245fbec0562c0c2071ff17954ebaae2d8cb1244e162c019ccbd02b5d64058720",
			[]int{0, 9, 0, -153, 0, 20, 26, 0, -245, -1, -72, -15, 0, 0, 0, 0, 0, 107, 26, -38, 337, 78, 0, -78, 0, -32, 0, 55, 49, -273, 0, -147, 26, 0, -89, 78, -43, 0, 0, 0, 107, -89, 0, 308, -49, 0, -26, 72, 55, 0, -331, 0, -233, 0, 112, 337, -26, 262, 38, 0, 0, 0, 0, 0}},
		{"parts, by others", api.Shape{Filter: api.LeGall, Depth: 2, Across: [7]int{1, 2, 2}, Down: [7]int{2, 2, 1}},
			numbers(8, 8, -5, 11, 0, -153, 0, 21, 26, 0, -242, 0, -72, -12, 0, 0, 0, 0, 0, 108, 24, -35, 338, 80, 0, -78, 0, -30, 0, 52, 50, -275, 0, -144, 28, 0, -91, 75, -44, 0, 0, -4, 105, -91, 0, 308, -48, 0, -25, 70, 52, 0, -330, 0, -234, 0, 112, 338, -25, 264, 36, 0, 0, 0, 0, 0), true, []int{14, 10}, nil,
			"6ac0852c08b0910d7908b0816f8018b00c73cb80162c42d46be67eb0fc5cb2af562c0d155346c0137cceed9f58f0c060162c01de3c8a4cd766dca260",
			[]int{0, 0, 0, -152, 0, 20, 25, 0, -241, 0, -71, -14, 0, 0, 0, 0, 0, 106, 25, -37, 336, 77, 0, -77, 0, -31, 0, 54, 48, -273, 0, -146, 25, 0, -89, 77, -43, 0, 0, 0, 106, -89, 0, 307, -48, 0, -25, 71, 54, 0, -330, 0, -232, 0, 112, 336, -25, 261, 37, 0, 0, 0, 0, 0}},
		{"shifts", api.Shape{Filter: api.Dubuc137, Depth: 2, Across: [7]int{2, 1, 3}, Down: [7]int{1, 2, 2}, Multi: true},
			numbers(8, 8, -5, 11, 0, -153, 0, 21, 26, 0, -242, 0, -72, -12, 0, 0, 0, 0, 0, 108, 24, -35, 338, 80, 0, -78, 0, -30, 0, 52, 50, -275, 0, -144, 28, 0, -91, 75, -44, 0, 0, -4, 105, -91, 0, 308, -48, 0, -25, 70, 52, 0, -330, 0, -234, 0, 112, 338, -25, 264, 36, 0, 0, 0, 0, 0), false, []int{10, 8}, [][]int{{1, -1}, nil, {2, 3}, {-4}, {4, -4, 0, -9, 61, 5}, {0, 0, 1}},
			"48b01450726b88483060b2082840183034555c9848300eef9a1968460c8723becc61b58176e895cc5e0483409b892b8d9dc4af2b495e0797f5fa90e0420c50cdffb5736687ba9c36d4",
			[]int{0, 12, 0, -154, 0, 21, 26, 0, -240, 3, -74, -14, 0, 0, 0, 0, 0, 107, 25, -35, 338, 0, 0, -81, 0, -31, 0, 54, 50, 0, 0, -147, 30, 0, -93, 74, -46, 0, 0, -6, 106, -90, 0, 307, -50, 0, -26, 70, 54, 0, -330, 0, -234, 0, 114, 338, -26, 266, 38, 0, 0, 0, 0, 0}},
		{"shifts, one part", api.Shape{Filter: api.Haar, Depth: 1, Across: [7]int{1, 1}, Down: [7]int{1, 1}, Multi: true},
			numbers(4, 4, 40, -7, 0, 3, 12, 5, -2, 0, 0, 0, 9, -1, 100, 0, 0, -60), true, []int{8}, [][]int{{-8}, {3}, {-3, 5}, {0}, {9}},
			"583007c273a4af808008300fb5c460c0b5f7",
			[]int{40, -7, 0, 0, 12, 5, 0, 0, 0, 0, 10, 0, 101, 0, 0, -62}},
		{"shifts that count for nothing", api.Shape{Filter: api.Haar, Depth: 1, Across: [7]int{2, 1}, Down: [7]int{1, 1}},
			numbers(4, 4, 40, -7, 0, 3, 12, 5, -2, 0, 0, 0, 9, -1, 100, 0, 0, -60), true, []int{8}, [][]int{{-8, 4}, {3}, {-3, 5}, {0}},
			"08300b1e758060c0cf7060c06bee",
			[]int{42, -6, 0, 0, 14, 6, 0, 0, 0, 0, 10, 0, 102, 0, 0, -62}},
		{"quiet bands", plain(api.Dubuc97, 2),
			numbers(8, 4, 0, -44, -5, -7, 0, 11, 15, 2, 0, -4, 12, -153, 0, 0, 0, 0, -51, 21, -4, 0, 26, 15, 2, 0, -7, -5, -242, 0, 0, 0, 28, -108), true, []int{0, 60, 4, 60, 20, 60, 8}, nil,
			"708a208023b8808080483058034b30e0",
			[]int{0, -44, 0, 0, 0, 0, 0, 0, 0, -5, 0, 0, 0, 0, 0, 0, 0, 0, 0, 0, 26, 14, 0, 0, 0, 0, 0, 0, 0, 0, 30, -110}},
		{"all quiet", api.Shape{Filter: api.Dubuc97, Depth: 2, Across: [7]int{1, 1, 1}, Down: [7]int{1, 1, 1}, Multi: true},
			numbers(8, 4, 0, -44, -5, -7, 0, 11, 15, 2, 0, -4, 12, -153, 0, 0, 0, 0, -51, 21, -4, 0, 26, 15, 2, 0, -7, -5, -242, 0, 0, 0, 28, -108), false, []int{60}, [][]int{{3}, {2}},
			"80808080808080",
			[]int{0, 0, 0, 0, 0, 0, 0, 0, 0, 0, 0, 0, 0, 0, 0, 0, 0, 0, 0, 0, 0, 0, 0, 0, 0, 0, 0, 0, 0, 0, 0, 0}},
		{"data without bytes", plain(api.Dubuc97, 0),
			numbers(2, 1, 1099511627775, 1099511627775), true, nil, nil,
			"3000",
			[]int{1099511627775, 1099511627775}},
		{"data without bytes, here and there", plain(api.Dubuc97, 1),
			numbers(4, 2, 1099511627775, 1099511627775, 0, 0, 5, 0, 1099511627775, 1099511627775), true, []int{0, 0, 24, 0}, nil,
			"300080803000",
			[]int{1099511627775, 1099511627775, 0, 0, 0, 0, 1099511627775, 1099511627775}},
		{"great numbers", plain(api.HaarOne, 1),
			numbers(2, 2, 549755813888, -549755813888, 9223372036854775807, -9223372036854775808), false, []int{0}, nil,
			"070000000000000e80030000000000000f0354ef5be7cc801a0354ef5be7cc801c",
			[]int{549755813888, -549755813888, 2199023255550, -2199023255550}},
	}
}

// long: numbers by a rule, and the bytes that they are.
type long struct {
	name        string
	s           api.Shape
	w, h        int
	times, plus int
	inter       bool
	qs          []int
	shifts      [][]int
	hex         string
	check       int // of the numbers that come back
}

// byRule: a plane that holds all kinds of numbers.
func byRule(w, h, times, plus int) api.Plane {
	p := noughts(w, h)
	for k := range p.V {
		i := times*k + plus
		if n := (i*i*37 + i*11) % 101; n >= 40 {
			p.V[k] = (n - 70) * (1 + i%7*(i%3))
		}
	}
	return p
}

// checked: a number that hangs on each one of a list, and on their order.
func checked(list []int) int {
	s := 1
	for _, v := range list {
		if s = (s*31 + v) % 1000000007; s < 0 {
			s += 1000000007
		}
	}
	return s
}

func longOnes() []long {
	return []long{
		{"three levels", plain(api.Dubuc97, 3), 24, 16, 1, 0, false, []int{4, 8, 8, 10, 12}, nil,
			"58c08ac1b77abfa660c03b8060c0a47918b04dc10be0428c2e3a615c36beb1de59fc7e428c34218bfe35d5a44a086f0b428c7a124927eab6396f8c6a521468c0" +
				"f52c2de6f7e0230159256df7537dbce3918ac5fd9e7d00693061715d9b9e70e3eed2685e495d121de0931b1c4128c038116d27e193f166612e97f257ab566712" +
				"772366be2f4b95e7cf68c13c6be08555a5327e3d6c9b12d97cd878a45877dd860568c0bd342e74785929fa200bf639b3320105c7e8342283081e0d9fa46a0b40" +
				"9551916a77cdd05695",
			448552324},
		{"three levels, by others, in parts", api.Shape{Filter: api.LeGall, Depth: 3, Across: [7]int{1, 2, 1, 4}, Down: [7]int{1, 1, 2, 3}}, 24, 16, 5, 1, true, []int{6, 9, 9, 9, 16}, nil,
			"5ac001f2ed2b934102240ba300f5b1e64048900a8988e02008908c38c012032fcbe2be4eb6c462e2060321e9082186f9805642034bcde67d1314c4225a32d051" +
				"80c0045ef987261c4016e7c7ad4059033e776d45f0d7df12fa306be1fb560060304bd41ed32ec27a894e9e56da6fc661c8c572ff51ddcfb83f59b9ca3f091d46" +
				"b010603001b3e835df74280b58cb1898a6dd8e325c68b8d14ecdf9a33271fb12d3339affe5cc16f26247e648",
			272083373},
		{"four levels with shifts", api.Shape{Filter: api.Dubuc137, Depth: 4, Across: [7]int{1, 1, 2, 3, 2}, Down: [7]int{1, 2, 1, 2, 3}, Multi: true}, 32, 16, 3, 2, false, []int{12}, [][]int{{-3}, {1, 2}, nil, {4, -4}, {0, 0}, {5, 6}, nil, {-7, 1, 2, -3, 4, 9}, {1}},
			"68c00d6e68c0357e28c0430a300e93ad1a306c562880028c24daa0541a71200a30614da815a301dbf9b967038cfc6243880f92f87a0748b78d0babd611a31158" +
				"b7b5100440b6a84677db9c478fd803d4485804a34072a4fd5abe04260dd1f78ccc76efdfc0101a3069fea0c79526b1eac871d22179de42450dc06ca2a14caf23" +
				"9b8e3402de2965ac0ab3ced8bd5605ab8c44929be5f2951a111ceba7cde2c360182319fd9f6dd0b0e45b489d8875c28de54ce6c5b15523c0054a305852391cd3" +
				"9bcf5f80c8c1f63ef56d13920cedafce94280d5a16408e3ec5a250a55f10e32d5d2b266078fcf0d64ab6e57d7ea02c8c25122291bd64738ad2819f0231d9619c" +
				"1c5d9170ae1d8a88014a3046a7aecf8df8f0ac5e12ea6ebbcd38465a314f1e8781ed655ea5015bc9acd2f9e103f2b4f57135d53daece262f6be7e4bdf0f9d2d1" +
				"897b9dc820a073068b52fe30d550a7a0",
			744205863},
		{"six levels", plain(api.Haar, 6), 64, 64, 7, 3, false, []int{14, 18, 22, 24, 30}, nil,
			"8080808080808080806ab0fff65aacfffff87b880406abffe4ec36f9cca0a002abfeaa31a8c12f5f04aac0fffffa526556ac864d3402a49456d4b3e004aac0ff" +
				"ffffffffdde11cb63056b07e46ecbec804aac0ffffeb5f1ffa947521e3094982e66cb13c152ab0ffff3eee76383f599ad628c3a90006098777cc5e6b280bb281" +
				"832051bf9d35620a77d5b45e4869d7ddf03d65d0412ab02ffffffe4f80ffeab7d9f23f0f94b6b11719fb6c1367ba1115d76e240a11e941e38f6da294be91e26e" +
				"046d3532b74f75c8402ab0fff947bb1ffba174b41409e79a0c9892b4d163bd89abac6b8b0d32b981097123c4ac3ee18d0a8b8115f8e62054e8c0",
			138024094},
	}
}

// meaning of bytes: what Decode tells of them.
type meaning struct {
	name  string
	s     api.Shape
	w, h  int
	inter bool
	hex   string
	count int
	err   api.Errno
	back  []int
}

func meanings() []meaning {
	return []meaning{
		{"no bytes", plain(api.Dubuc97, 0), 1, 1, false,
			"", 0, api.ErrTrunc, nil},
		{"a length of 0", plain(api.Dubuc97, 0), 1, 1, false,
			"80", 1, api.OK, []int{0}},
		{"a length of 0, filled up with ones", plain(api.Dubuc97, 0), 1, 1, false,
			"ff", 1, api.OK, []int{0}},
		{"a length of 0 and anything behind", plain(api.Dubuc97, 0), 2, 1, true,
			"80616e79", 1, api.OK, []int{0, 0}},
		{"a length without an end", plain(api.Dubuc97, 0), 1, 1, false,
			"00", 0, api.ErrTrunc, nil},
		{"one whose end is past the end", plain(api.Dubuc97, 0), 1, 1, false,
			"55", 0, api.ErrTrunc, nil},
		{"one of 31 pairs without an end", plain(api.Dubuc97, 0), 1, 1, false,
			"0000000000000001ffffffffff", 0, api.ErrTrunc, nil},
		{"one of 31 ones without an end", plain(api.Dubuc97, 0), 1, 1, false,
			"5555555555555555ffffffffff", 0, api.ErrTrunc, nil},
		{"one of 31 pairs", plain(api.Dubuc97, 0), 1, 1, false,
			"0000000000000003", 0, api.ErrTrunc, nil},
		{"one of 31 pairs, by a quantiser that there isn't", plain(api.Dubuc97, 0), 1, 1, false,
			"0000000000000002aa40", 0, api.ErrQuant, nil},
		{"the greatest length", plain(api.Dubuc97, 0), 1, 1, false,
			"5555555555555556a8c06d6f7265", 0, api.ErrTrunc, nil},
		{"the greatest length, by a quantiser that there isn't", plain(api.Dubuc97, 0), 1, 1, false,
			"5555555555555556aa406d6f7265", 0, api.ErrQuant, nil},
		{"the greatest length without a quantiser", plain(api.Dubuc97, 0), 1, 1, false,
			"5555555555555556", 0, api.ErrTrunc, nil},
		{"a length whose quantiser is cut off", plain(api.Dubuc97, 0), 1, 1, false,
			"56", 0, api.ErrTrunc, nil},
		{"a quantiser without an end", plain(api.Dubuc97, 0), 1, 1, false,
			"20000000000000003ffffffffffffffc", 0, api.ErrTrunc, nil},
		{"a quantiser whose end is past the end", plain(api.Dubuc97, 0), 1, 1, false,
			"2a", 0, api.ErrTrunc, nil},
		{"data of no byte that is there", plain(api.Dubuc97, 0), 1, 1, false,
			"30", 0, api.ErrTrunc, nil},
		{"data of a byte too few", plain(api.Dubuc97, 0), 1, 1, false,
			"0c0000", 0, api.ErrTrunc, nil},
		{"data of a byte 0", plain(api.Dubuc97, 0), 1, 1, false,
			"3000", 2, api.OK, []int{1099511627775}},
		{"data that mean noughts", plain(api.Dubuc97, 0), 1, 1, false,
			"204080", 3, api.OK, []int{0}},
		{"data and anything behind", plain(api.Dubuc97, 0), 1, 1, false,
			"23406d6f7265", 2, api.OK, []int{3298534883327}},
		{"codes filled up with ones", plain(api.Dubuc97, 0), 1, 1, false,
			"3f40", 2, api.OK, []int{1649267441663}},
		{"codes that are filled up with a one", plain(api.Dubuc97, 0), 1, 1, false,
			"2540", 2, api.OK, []int{2061584302079}},
		{"codes that fill two bytes", plain(api.Dubuc97, 0), 1, 1, false,
			"02ab40000000000000", 9, api.OK, []int{4398046511104}},
		{"codes that fill two bytes, and a byte too few", plain(api.Dubuc97, 0), 1, 1, false,
			"02ab400000000000", 0, api.ErrTrunc, nil},
		{"more data than they mean", plain(api.Dubuc97, 0), 1, 1, false,
			"48c040ff00010203", 7, api.OK, []int{-47}},
		{"quantiser 60", plain(api.Dubuc97, 0), 1, 1, false,
			"2a8c40", 3, api.OK, []int{4398046511104}},
		{"quantiser 60 by others", plain(api.Dubuc97, 0), 1, 1, true,
			"2a8c40", 3, api.OK, []int{4398046511104}},
		{"quantiser 60, without data", plain(api.Dubuc97, 0), 1, 1, false,
			"2a8c", 0, api.ErrTrunc, nil},
		{"quantiser 61", plain(api.Dubuc97, 0), 1, 1, false,
			"2aa440", 0, api.ErrQuant, nil},
		{"quantiser 61, without data", plain(api.Dubuc97, 0), 1, 1, false,
			"2aa4", 0, api.ErrQuant, nil},
		{"quantiser 62", plain(api.Dubuc97, 0), 1, 1, false,
			"2aac40", 0, api.ErrQuant, nil},
		{"quantiser 256", plain(api.Dubuc97, 0), 1, 1, false,
			"20003040", 0, api.ErrQuant, nil},
		{"the greatest quantiser", plain(api.Dubuc97, 0), 1, 1, false,
			"2aaaaaaaaaaaaaaac040", 0, api.ErrQuant, nil},
		{"the greatest quantiser, without data", plain(api.Dubuc97, 0), 1, 1, false,
			"12aaaaaaaaaaaaaaac", 0, api.ErrQuant, nil},
		{"four bands without data", plain(api.LeGall, 1), 2, 2, false,
			"80808080", 4, api.OK, []int{0, 0, 0, 0}},
		{"four bands, one is missing", plain(api.LeGall, 1), 2, 2, false,
			"808080", 0, api.ErrTrunc, nil},
		{"the last one is cut off", plain(api.LeGall, 1), 2, 2, false,
			"8080807040", 0, api.ErrTrunc, nil},
		{"the last one's quantiser is wrong", plain(api.LeGall, 1), 2, 2, false,
			"8080806821", 0, api.ErrQuant, nil},
		{"the second one's quantiser is wrong, and the third one is missing", plain(api.LeGall, 1), 2, 2, false,
			"802aa440", 0, api.ErrQuant, nil},
		{"one band with data", plain(api.LeGall, 1), 4, 4, false,
			"808018905a7fc3ffff", 9, api.OK, []int{0, 0, 0, 0, 0, 0, 0, 0, 31, 0, 0, 0, 64, 0, 0, 0}},
		{"all bands with data, by itself", plain(api.LeGall, 1), 4, 2, false,
			"0b5a7fc3693c551a30010203043077626568696e64", 15, api.OK, []int{10, 10, -4, 0, -124, 0, -2, -2}},
		{"all bands with data, by others", plain(api.LeGall, 1), 4, 2, true,
			"0b5a7fc3693c551a30010203043077626568696e64", 15, api.OK, []int{10, 0, -4, 0, -123, 0, -2, -2}},
		{"parts", api.Shape{Filter: api.LeGall, Depth: 1, Across: [7]int{1, 2}, Down: [7]int{2, 1}}, 4, 4, true,
			"0b5a7fc369bc551a30410203043077", 15, api.OK, []int{0, 4, 0, 0, 0, 0, 0, 0, 0, 0, 0, 0, -59, 0, 0, 0}},
		{"shifts", api.Shape{Filter: api.LeGall, Depth: 1, Across: [7]int{2, 1}, Down: [7]int{1, 2}, Multi: true}, 4, 4, false,
			"0b5a7fc369bc551a304f3203043077", 15, api.OK, []int{4, 4, 0, 0, 4, 4, 0, 0, -12, 0, 0, 0, 0, 0, 0, 0}},
		{"a parent's data, two levels", plain(api.HaarOne, 2), 8, 4, false,
			"80615a7f808008c05a7f3108c05a7f3180", 17, api.OK, []int{0, 0, 12, 0, 13, 0, 465, 0, 0, 0, 0, 0, -5, 0, 0, 0, 13, 0, -11, 0, 0, 0, 0, 0, 0, 3, -5, 47, 0, 0, 0, 0}},
	}
}
