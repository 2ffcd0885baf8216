package coefs_test

import "shingle/api"

// What stands in this file was worked out ahead of the program, after the words of chapters 4 to 6 and 11 to 14.

// numbers of a band 6 wide and 5 high.
func numbers() api.Plane {
	return api.Plane{W: 6, H: 5, V: []int{
		0, 0, 7, -3, 0, 0,
		1, -1, 0, 12, -100, 5,
		0, 0, 0, 1000, -40, 0,
		0, 0, 0, 0, 0, 9,
		2, -6, 0, 3, 0, -250,
	}}
}

// above such a band: its parent.
func above() api.Plane {
	return api.Plane{W: 3, H: 3, V: []int{0, 2, 0, -1, 0, 0, 0, 0, 5}}
}

// greatNumbers at and beyond what is coded, and what may come back.
func greatNumbers() api.Plane {
	return api.Plane{W: 6, H: 3, V: []int{
		1 << 42, 1<<42 + 1, 1 << 62, greatest, -1 << 42, -1<<42 - 1,
		-1 << 62, 1<<41 - 2, 1<<41 - 1, 1 << 41, -1<<41 + 2, -1 << 41,
		1 << 39, -1 << 39, 1 << 40, 1, 0, -1,
	}}
}

// worked out: what Encode is handed, and what it tells.
type worked struct {
	name         string
	j            api.Job
	v, parent    api.Plane
	shifts       []int
	hex          string
	coarse, back []int
}

func workedOut() []worked {
	return []worked{
		{"one part", api.Job{Across: 1, Down: 1}, numbers(), api.Plane{}, nil,
			"bf34b4f862223b5b2c0c058766ee0e8bad80",
			[]int{0, 0, 7, -3, 0, 0, 1, -1, 0, 12, -100, 5, 0, 0, 0, 1000, -40, 0, 0, 0, 0, 0, 0, 9, 2, -6, 0, 3, 0, -250},
			[]int{0, 0, 7, -3, 0, 0, 1, -1, 0, 12, -100, 5, 0, 0, 0, 1000, -40, 0, 0, 0, 0, 0, 0, 9, 2, -6, 0, 3, 0, -250}},
		{"coarse", api.Job{Q: 7, Across: 1, Down: 1}, numbers(), api.Plane{}, nil,
			"da00eedd23e17cdcf0356df0",
			[]int{0, 0, 2, 0, 0, 0, 0, 0, 0, 3, -30, 1, 0, 0, 0, 307, -12, 0, 0, 0, 0, 0, 0, 2, 0, -1, 0, 0, 0, -76},
			[]int{0, 0, 8, 0, 0, 0, 0, 0, 0, 12, -99, 5, 0, 0, 0, 1000, -41, 0, 0, 0, 0, 0, 0, 8, 0, -5, 0, 0, 0, -249}},
		{"by others", api.Job{Q: 12, Inter: true, Across: 1, Down: 1}, numbers(), api.Plane{}, nil,
			"ff23d4109e56fb9e40",
			[]int{0, 0, 0, 0, 0, 0, 0, 0, 0, 1, -12, 0, 0, 0, 0, 125, -5, 0, 0, 0, 0, 0, 0, 1, 0, 0, 0, 0, 0, -31},
			[]int{0, 0, 0, 0, 0, 0, 0, 0, 0, 11, -99, 0, 0, 0, 0, 1003, -43, 0, 0, 0, 0, 0, 0, 11, 0, 0, 0, 0, 0, -251}},
		{"foretold", api.Job{Mean: true, Across: 1, Down: 1}, numbers(), api.Plane{}, nil,
			"bf36d471feaf501bfda589f2380c33291197e3cf277ecc07716ea6",
			[]int{0, 0, 7, -10, 3, 0, 1, -1, -2, 11, -103, 38, -1, 0, 0, 996, -344, 45, 0, 0, 0, -333, -320, 22, 2, -7, 2, 3, -1, -253},
			[]int{0, 0, 7, -3, 0, 0, 1, -1, 0, 12, -100, 5, 0, 0, 0, 1000, -40, 0, 0, 0, 0, 0, 0, 9, 2, -6, 0, 3, 0, -250}},
		{"foretold, coarse", api.Job{Q: 10, Mean: true, Across: 1, Down: 1}, numbers(), api.Plane{}, nil,
			"c842ef94fea72132b0023d8fac3ba32680",
			[]int{0, 0, 1, -2, 1, 0, 0, 0, 0, 1, -17, 6, 0, 0, 0, 173, -60, 7, 0, 0, 0, -58, -55, 4, 0, -1, 0, 0, 0, -44},
			[]int{0, 0, 9, -6, 3, 3, 0, 0, 3, 11, -98, 7, 0, 0, 1, 1003, -43, -2, 0, 0, 0, -2, 0, 11, 0, -9, -3, -2, -1, -253}},
		{"foretold, by others", api.Job{Q: 9, Inter: true, Mean: true, Across: 1, Down: 1}, numbers(), api.Plane{}, nil,
			"c8739a36b687651c9c82dc8388cc8135b4",
			[]int{0, 0, 1, -2, 0, 0, 0, 0, 0, 2, -21, 8, 0, 0, 0, 209, -72, 9, 0, 0, 0, -70, -67, 4, 0, -1, 0, 0, 0, -53},
			[]int{0, 0, 7, -4, -4, -4, 0, 0, 2, 13, -100, 4, 0, 0, 1, 1000, -40, 0, 0, 0, 0, 0, 0, 8, 0, -7, -2, -1, 0, -251}},
		{"high across", api.Job{Orient: 1, Q: 1, Across: 1, Down: 1}, numbers(), api.Plane{}, nil,
			"d0b9775df667c358def36785fe0317b0",
			[]int{0, 0, 5, -2, 0, 0, 0, 0, 0, 9, -80, 4, 0, 0, 0, 800, -32, 0, 0, 0, 0, 0, 0, 7, 1, -4, 0, 2, 0, -200},
			[]int{0, 0, 7, -3, 0, 0, 0, 0, 0, 12, -101, 6, 0, 0, 0, 1001, -41, 0, 0, 0, 0, 0, 0, 9, 2, -6, 0, 3, 0, -251}},
		{"high down", api.Job{Orient: 2, Q: 1, Across: 1, Down: 1}, numbers(), api.Plane{}, nil,
			"d0b974d12e954c935ec0544fb869ebc8",
			[]int{0, 0, 5, -2, 0, 0, 0, 0, 0, 9, -80, 4, 0, 0, 0, 800, -32, 0, 0, 0, 0, 0, 0, 7, 1, -4, 0, 2, 0, -200},
			[]int{0, 0, 7, -3, 0, 0, 0, 0, 0, 12, -101, 6, 0, 0, 0, 1001, -41, 0, 0, 0, 0, 0, 0, 9, 2, -6, 0, 3, 0, -251}},
		{"high both, with a parent", api.Job{Orient: 3, Q: 3, Across: 1, Down: 1}, numbers(), above(), nil,
			"c51534f7480b9d925d000e86699890",
			[]int{0, 0, 4, -1, 0, 0, 0, 0, 0, 6, -57, 2, 0, 0, 0, 571, -22, 0, 0, 0, 0, 0, 0, 5, 1, -3, 0, 1, 0, -142},
			[]int{0, 0, 8, -3, 0, 0, 0, 0, 0, 12, -101, 5, 0, 0, 0, 1000, -40, 0, 0, 0, 0, 0, 0, 10, 3, -6, 0, 3, 0, -250}},
		{"high across, with a parent", api.Job{Orient: 1, Q: 5, Across: 1, Down: 1}, numbers(), above(), nil,
			"d828392391a073dd965bfafac6c0",
			[]int{0, 0, 2, -1, 0, 0, 0, 0, 0, 4, -40, 2, 0, 0, 0, 400, -16, 0, 0, 0, 0, 0, 0, 3, 0, -2, 0, 1, 0, -100},
			[]int{0, 0, 6, -4, 0, 0, 0, 0, 0, 11, -101, 6, 0, 0, 0, 1001, -41, 0, 0, 0, 0, 0, 0, 9, 0, -6, 0, 4, 0, -251}},
		{"four parts", api.Job{Orient: 2, Q: 6, Across: 2, Down: 2}, numbers(), above(), nil,
			"6d6002c817f6fcbbf7415ff5cea0",
			[]int{0, 0, 2, -1, 0, 0, 0, 0, 0, 4, -36, 1, 0, 0, 0, 363, -14, 0, 0, 0, 0, 0, 0, 3, 0, -2, 0, 1, 0, -90},
			[]int{0, 0, 7, -4, 0, 0, 0, 0, 0, 13, -101, 4, 0, 0, 0, 1000, -40, 0, 0, 0, 0, 0, 0, 10, 0, -7, 0, 4, 0, -249}},
		{"parts that are left out", api.Job{Q: 18, Across: 3, Down: 5}, numbers(), api.Plane{}, nil,
			"f6cbfb714f6a",
			[]int{0, 0, 0, 0, 0, 0, 0, 0, 0, 0, -4, 0, 0, 0, 0, 43, -1, 0, 0, 0, 0, 0, 0, 0, 0, 0, 0, 0, 0, -10},
			[]int{0, 0, 0, 0, 0, 0, 0, 0, 0, 0, -103, 0, 0, 0, 0, 990, -34, 0, 0, 0, 0, 0, 0, 0, 0, 0, 0, 0, 0, -239}},
		{"all parts are left out", api.Job{Q: 60, Mean: true, Across: 3, Down: 5, Multi: true}, numbers(), api.Plane{}, []int{-3, -3, -3, -3, -3, -3, -3, -3, -3, -3, -3, -3, -3, -3, -3},
			"fff8",
			[]int{0, 0, 0, 0, 0, 0, 0, 0, 0, 0, 0, 0, 0, 0, 0, 0, 0, 0, 0, 0, 0, 0, 0, 0, 0, 0, 0, 0, 0, 0},
			[]int{0, 0, 0, 0, 0, 0, 0, 0, 0, 0, 0, 0, 0, 0, 0, 0, 0, 0, 0, 0, 0, 0, 0, 0, 0, 0, 0, 0, 0, 0}},
		{"left out and foretold", api.Job{Q: 26, Mean: true, Across: 3, Down: 5}, numbers(), api.Plane{}, nil,
			"f74e7e1d1ee912",
			[]int{0, 0, 0, 0, 0, 0, 0, 0, 0, 0, -1, 0, 0, 0, 0, 11, -3, 0, 0, 0, 0, -3, -3, 0, 0, 0, 0, 0, 0, -2},
			[]int{0, 0, 0, 0, 0, 0, 0, 0, 0, 0, -136, -45, 0, 0, 0, 1041, -15, -65, 0, 0, 0, 30, 35, -15, 0, 0, 0, 10, 25, -211}},
		{"shifts", api.Job{Orient: 2, Q: 4, Mean: true, Across: 3, Down: 2, Multi: true}, numbers(), above(), []int{1, -1, 0, 3},
			"8c36dd1b3fb58df0fa41c914edd7aa73031fcc4e951a85",
			[]int{0, 0, 4, -6, 2, 0, 0, 0, -1, 6, -51, 19, 0, 0, 0, 498, -172, 22, 0, 0, 0, -167, -160, 11, 0, -1, 1, 1, 0, -126},
			[]int{0, 0, 8, -4, 1, 1, 0, 0, 0, 13, -100, 6, 0, 0, 0, 1001, -40, 0, 0, 0, 0, -1, -1, 9, 0, -5, 1, 3, 0, -250}},
		{"shifts of one part", api.Job{Q: 9, Across: 1, Down: 1, Multi: true}, numbers(), api.Plane{}, []int{-4, 7},
			"200c2e4414dcee1a5b050937c6e4",
			[]int{0, 0, 2, -1, 0, 0, 0, 0, 0, 4, -40, 2, 0, 0, 0, 400, -16, 0, 0, 0, 0, 0, 0, 3, 0, -2, 0, 1, 0, -100},
			[]int{0, 0, 6, -4, 0, 0, 0, 0, 0, 11, -101, 6, 0, 0, 0, 1001, -41, 0, 0, 0, 0, 0, 0, 9, 0, -6, 0, 4, 0, -251}},
		{"shifts that count for nothing", api.Job{Q: 9, Across: 2, Down: 1}, numbers(), api.Plane{}, []int{-4, 7},
			"65342ca622401f76193162",
			[]int{0, 0, 1, 0, 0, 0, 0, 0, 0, 2, -21, 1, 0, 0, 0, 210, -8, 0, 0, 0, 0, 0, 0, 1, 0, -1, 0, 0, 0, -52},
			[]int{0, 0, 7, 0, 0, 0, 0, 0, 0, 12, -102, 7, 0, 0, 0, 1000, -41, 0, 0, 0, 0, 0, 0, 7, 0, -7, 0, 0, 0, -250}},
		{"more parts than places", api.Job{Orient: 1, Q: 16, Inter: true, Mean: true, Across: 8, Down: 7, Multi: true}, numbers(), above(), []int{-4, -3, -2, -1, 0, 1, 2, 3, 4, -4, -3, -2, -1, 0, 1, 2, 3, 4, -4, -3, -2, -1, 0, 1, 2, 3, 4, -4, -3, -2, -1, 0, 1, 2, 3, 4, -4, -3, -2, -1, 0, 1, 2, 3, 4, -4, -3, -2, -1, 0, 1, 2, 3, 4, -4, -3, -2, -1, 0, 1},
			"ff9672a77592e4b85c6fc7fa0ec6c9cc843890",
			[]int{0, 0, 0, 0, 0, 0, 0, 0, 0, 0, -6, 2, 0, 0, 0, 105, -30, 3, 0, 0, 0, -41, -33, 1, 0, 0, 0, 0, 0, -26},
			[]int{0, 0, 0, 0, 0, 0, 0, 0, 0, 0, -102, 11, 0, 0, 0, 1001, -42, 2, 0, 0, 0, 3, 4, 4, 0, 0, 0, 1, 3, -247}},
		{"great numbers", api.Job{Across: 1, Down: 1}, greatNumbers(), api.Plane{}, nil,
			"54ef5be7cc801907977bdfdfe9312db03ce6a9f716c0000000000000000bf1a0000114858c9e08",
			[]int{2199023255550, 2199023255550, 2199023255550, 2199023255550, -2199023255550, -2199023255550, -2199023255550, 2199023255550, 2199023255550, 2199023255550, -2199023255550, -2199023255550, 549755813888, -549755813888, 1099511627776, 1, 0, -1},
			[]int{2199023255550, 2199023255550, 2199023255550, 2199023255550, -2199023255550, -2199023255550, -2199023255550, 2199023255550, 2199023255550, 2199023255550, -2199023255550, -2199023255550, 549755813888, -549755813888, 1099511627776, 1, 0, -1}},
		{"great numbers, coarse", api.Job{Q: 60, Inter: true, Across: 1, Down: 1}, greatNumbers(), api.Plane{}, nil,
			"0000000000a55e000b338055612313c8df98945b7af3dc07db4655a1385835a19fd8",
			[]int{67108863, 67108863, 67108863, 67108863, -67108863, -67108863, -67108863, 67108863, 67108863, 67108863, -67108863, -67108863, 16777216, -16777216, 33554432, 0, 0, 0},
			[]int{2199023235072, 2199023235072, 2199023235072, 2199023235072, -2199023235072, -2199023235072, -2199023235072, 2199023235072, 2199023235072, 2199023235072, -2199023235072, -2199023235072, 549755826176, -549755826176, 1099511640064, 0, 0, 0}},
		{"great numbers, foretold", api.Job{Mean: true, Across: 1, Down: 1}, greatNumbers(), api.Plane{}, nil,
			"54ef5be7cc801907977bdfdfe9312db04740e66ff64b201de280bc57ef1a886b7c3f810e28f20000000000065eb24a3e012548ed6fe668dc7236d7b5199ccaeb47af3c1402833b022c765b40",
			[]int{2199023255550, 2199023255550, 2199023255550, 2199023255550, -2199023255550, -2199023255550, -2199023255550, 0, -1466015503700, -1466015503701, -2199023255550, -2199023255550, 549755813888, -1466015503701, -183251937962, -1832519379625, -977343669135, 162890611519},
			[]int{2199023255550, 4398046511100, 4398046511104, 4398046511104, 2199023255554, 4, 0, 2199023255550, 2199023255551, 2199023255552, 733007751853, -1221679586413, 549755813888, -549755813888, 1099511627776, 1, 0, -1}},
		{"great numbers, foretold and coarse", api.Job{Q: 33, Mean: true, Across: 2, Down: 2, Multi: true}, greatNumbers(), api.Plane{}, []int{2, -40, 40, 2199023255550},
			"307d9c5d5fdd4d1f90d082646c96c32c18acfdbb15de59e239926c378d6e7bbb44000000000006c9294e7664aa80004305a58180b5e8875480554ca4cf01bff62fa1a3cd2d001063aa8c2e0398984ccaa83c2a78e13411a0",
			[]int{5108067957, 5108067956, 5108067957, 2199023255550, -2199023255550, -2199023255550, -67108863, 0, -44739242, -44739242, -67108863, -67108863, 16777215, -44739242, -5592405, -55924053, -29826162, 4971026},
			[]int{2199023255704, 4398046510977, 4398046511104, 4398046511104, 2199023255554, 4, 16536, 2199023261072, 2199023262811, 2199023263433, 733007770862, -1221679563695, 549755814040, -549755801024, 1099511630862, 614, -14497, -6091}},
	}
}

// long: numbers by a rule, and the bytes that they are.
type long struct {
	name   string
	j      api.Job
	parent api.Plane
	shifts []int
	hex    string
	check  int // of the coarse numbers and those that come back
}

// byRule: a plane that holds each context's numbers.
func byRule(w, h, times, plus int) api.Plane {
	p := noughts(w, h)
	for k := range p.V {
		i := times*k + plus
		if n := (i*i*37 + i*11) % 101; n >= 40 {
			p.V[k] = (n - 70) * (1 + i%7*(i%3))
		}
	}
	return p
}

// longBand is 24 wide and 20 high.
func longBand() api.Plane {
	return byRule(24, 20, 1, 0)
}

// checked: a number that hangs on each one of two lists, and on their order.
func checked(c, r []int) int {
	s := 1
	for _, list := range [][]int{c, r} {
		for _, v := range list {
			if s = (s*31 + v) % 1000000007; s < 0 {
				s += 1000000007
			}
		}
	}
	return s
}

// squares around 0, by turns.
func squares(count int) []int {
	var out []int
	for i := range count {
		out = append(out, i*i%23-11)
	}
	return out
}

func longOnes() []long {
	parent := byRule(12, 10, 3, 1)
	return []long{
		{"one part", api.Job{Q: 2, Across: 1, Down: 1}, parent, nil,
			"a94b2c2d604b28a6490d644ae8d80083761b4739737d45e4a3459f159a5fa582ece759d2abca534b330903b27304838fd874d9fddbd11f3942a206b985a983ce" +
				"eada45775374f42469f0b67dc0c8d6981cee2f55563a9109e7e227ff8f79c07fab50407452d45ea3dd37f766b92f064af383f3171ae5f6f382680918c1b49592" +
				"adb203dede29e85039fecc8d83864f98ee2018cac9bca44834b6349e1dfbe481158678b5d7b4d5d2dabc09735d09ab6726db42294c0577fc345526202266f62b" +
				"3c31e4489c741a231355101b1fc1731dfb908799e1983073fb0a3f54ae6ceaab3a1302c507a960b58f56b57854d31a281293531fb2022004a6cfc327e3995c07" +
				"ecc9b9e45b0dc0cab876396f7d5c593c2e4bf39c591b455bd67bbca1d90fa1947dea27f0dc086e2c681311480cd1698d8901f174505775f58a60f364438c03b8" +
				"3bade9e66124cc3be852983080",
			101709464},
		{"high across", api.Job{Orient: 1, Q: 9, Across: 1, Down: 1}, parent, nil,
			"8987ea3c391a18120740da969c4123c3342e7f7e940b08c4c4be6aadc8202ab5c87cc9d3cc6590492ca91db04f9b49017eb46683c7e0d7b7bbb310122485dd19" +
				"1fb305bf1aa0079dcbf0a59286e8099e6cd389a2302467ced4f94c45c76bc22b421e9c8a55987a7d1d890c0a83c126e868913b16b4552cf5c768dd66a6fcc22f" +
				"631f6986f8ad6f4a15b5cdfd35e46f1763742d7ef91a11778b295a532552c7f4fd1f2fb8291dc2bbd8e51d1223e28136d5c86fad89cee08fc7ee069543ab3bd0" +
				"c19f15950fd6d1185acf80d673d2bdacb9c055b8821711b1c344640531bcfdbbeb5daf3d6106b824cdbb4000c57c75933f8b33b7256f3c48a2c680",
			769710542},
		{"high down", api.Job{Orient: 2, Q: 9, Across: 1, Down: 1}, parent, nil,
			"89880aab61aa3de0b7235726bea06852a92a8f12528ce8ff1b578c3086c1e3e5b0e5637ae054785d8b7ba96356bff6cc0cf43af088f1dd8238f8ac4be8126e1e" +
				"d693e99051b0405889e9904e9bc36f6110f1358ea0f61bf4545a63d9f5fb0215078702bdd50bcbd074bf2cd920dc0dd4eef222be59e7bc314bca5ebb38350998" +
				"039421b36eae3ae92ef356ee666597d2981a23327f287619487cf0b9b50a4f7401d11e01ceda51fc7c1f9ef8386f58f31b1fa54512e6311a75290e4c5fd94009" +
				"a4aab3a79c5da32fa67813f37263e8524e35503f77114d49779bd0f72485722154956b295e279062da6d7e796187cd6bf0faa897c21b9e71d16f",
			769710542},
		{"foretold", api.Job{Q: 8, Mean: true, Across: 1, Down: 1}, api.Plane{}, nil,
			"a0d15c313a6c463fbe501034ed583c453e4f674b19a01b993ed53380a1e40535abe5c153af0e022756577df6f0196484841a5a82826b7c0477a8eb514f551e7f" +
				"2d80bb4383fb5d8dd0eda1c23bb5ed831f101f2d9e71eba4f49ed3fb3ea4f8c043b2b967060379ce9f81abc2fd754e5c6db5dd876cba74e9e7b81a25b64a1d89" +
				"34711be6ad7f12fd8f0e862569d059c90c6f9297a14d0a4157eae2e4234bfee15d4700fcc2d7b7557744fc969917538cd29efa65e5c46f710dd18c57a25fb073" +
				"73672880be7f63d6181ba94b8ed6afc3a05d8212cb5e2fa02bec37e25ef3777756abf61bd6813e72fe4bf64369199ed44bd6328696250e0588d7ae298b3e033b" +
				"33a0f04010e837a615fa77c573b19e355fcc243fce87b5f46f1f8fddf545f7de7cf87b15f4d966c7e9619667c73e8068efc5efe373005bb9758c9d7e554434c4" +
				"2484679882085f2c2296609aaa159dff80ea7f1ac0109179b46a6f641c46232c5e6c19e835aa20",
			381818874},
		{"parts", api.Job{Orient: 3, Q: 20, Inter: true, Across: 12, Down: 10}, parent, nil,
			"4f109ab3555ac3d5730fbae3ab9df01a2bf7f0f4c60f758a7aa932d23801634a73225f6562e565a57fd983d2ac10a108b5754ffe7a838c12d003ab32d6d4f643" +
				"77999693fc4cc253bc1934f5d7740c7f143519c7d6ddf044f536607f633378acbd66170e2338ad6170296194b0e0",
			120483145},
		{"shifts", api.Job{Orient: 2, Q: 16, Mean: true, Across: 8, Down: 7, Multi: true}, parent, squares(50),
			"21d752286cdeae9760a44fa9e85d071658283e0dcbf711aab44382668bb5f86f0f165ad8b69c6b48ed6fa638932915d3fb4144976e1e42f084fb8eea3334d9b9" +
				"c49271056e0ae1a97d2949bdbd9eaba9423f91eedca84fbc130c294a9beb3e7acf26493f159b5c9ba110ddfb7245f8c3ee6f369e83ef9f1fc6b065aa0185cbef" +
				"14aa51a1c008c571f689e0483731257249481270eb09a2367e78bf1daecf9ab095b03555be99c743501b51d56027d33aca894d7daef803fcab013993dc5c2883" +
				"e75fca2002b5a6be545f8c3a56e9754a02c7e40e25d56f7a282842149dc7a06024e5c77ba0ca99b3de4e1c7b7fe2201553e5112ae9299c466643b86d909dfcd2" +
				"4169697d24ce6124f05554b9f3bdff14ff70bfd59eb9084c6175632ee2e2fef202af15bb9f41949c282c4171ab49c0d9b03849a863a9b5b9e42e070be2852e03" +
				"3392009ae2294053",
			425898346},
	}
}

// told of bytes: what Decode is handed, and what it tells.
type toldOf struct {
	name         string
	j            api.Job
	w, h         int
	parent       api.Plane
	hex          string
	coarse, back []int
}

func toldOfBytes() []toldOf {
	return []toldOf{
		{"none", api.Job{Across: 1, Down: 1}, 3, 2, api.Plane{}, "",
			[]int{1099511627775, 1099511627775, 1099511627775, 1099511627775, 1099511627775, 1099511627775},
			[]int{1099511627775, 1099511627775, 1099511627775, 1099511627775, 1099511627775, 1099511627775}},
		{"none, coarse", api.Job{Q: 60, Inter: true, Across: 1, Down: 1}, 2, 2, api.Plane{}, "",
			[]int{1099511627775, 1099511627775, 1099511627775, 1099511627775},
			[]int{4398046511104, 4398046511104, 4398046511104, 4398046511104}},
		{"none, foretold", api.Job{Mean: true, Across: 1, Down: 1}, 4, 2, api.Plane{}, "",
			[]int{1099511627775, 1099511627775, 1099511627775, 1099511627775, 1099511627775, 1099511627775, 1099511627775, 1099511627775},
			[]int{1099511627775, 2199023255550, 3298534883325, 4398046511100, 2199023255550, 2932031007400, 3909374676533, 4398046511104}},
		{"none, of parts", api.Job{Q: 3, Across: 2, Down: 2}, 3, 2, api.Plane{}, "",
			[]int{1099511627775, 1099511627775, 1099511627775, 1099511627775, 1099511627775, 1099511627775},
			[]int{1924145348607, 1924145348607, 1924145348607, 1924145348607, 1924145348607, 1924145348607}},
		{"none, with a shift", api.Job{Q: 3, Across: 1, Down: 1, Multi: true}, 2, 2, api.Plane{}, "",
			[]int{1099511627775, 1099511627775, 1099511627775, 1099511627775},
			[]int{4398046511104, 4398046511104, 4398046511104, 4398046511104}},
		{"ones", api.Job{Q: 8, Across: 2, Down: 2}, 3, 2, api.Plane{}, "ffffff",
			[]int{0, 0, 0, 0, 0, 0},
			[]int{0, 0, 0, 0, 0, 0}},
		{"ones of one part", api.Job{Q: 8, Across: 1, Down: 1}, 3, 2, api.Plane{}, "ffffff",
			[]int{0, 0, 0, 0, 0, 0},
			[]int{0, 0, 0, 0, 0, 0}},
		{"some, any", api.Job{Across: 1, Down: 1}, 4, 3, api.Plane{}, "deadbeef0123456789abcdef",
			[]int{0, 0, 0, -627, 0, 0, -1, 3, -5, 0, -8303, 0},
			[]int{0, 0, 0, -627, 0, 0, -1, 3, -5, 0, -8303, 0}},
		{"some, with a parent", api.Job{Orient: 1, Q: 6, Inter: true, Across: 1, Down: 1}, 4, 3, above(), "deadbeef0123456789abcdef",
			[]int{0, 0, -2, 0, 0, 2, 0, -1, 0, 0, 2, 0},
			[]int{0, 0, -7, 0, 0, 7, 0, -4, 0, 0, 7, 0}},
		{"some, of parts", api.Job{Orient: 2, Q: 21, Mean: true, Across: 3, Down: 2}, 4, 3, above(), "5a7fc3ffffe1",
			[]int{0, 0, 0, 0, -2, 19, 0, 0, 0, 0, 0, 0},
			[]int{0, 0, 0, 0, -95, 709, 236, 79, -95, 173, 373, 229}},
		{"some, with shifts", api.Job{Q: 30, Mean: true, Across: 2, Down: 3, Multi: true}, 4, 3, api.Plane{}, "3c5aa5c3ffff00ff7e81",
			[]int{0, -20, -1, 0, 0, 0, 0, 0, 0, 0, 0, 0},
			[]int{0, -2624, -2896, -2896, 0, -875, -2132, -2641, 0, -292, -1100, -1958}},
		{"a shift to both ends", api.Job{Q: 30, Across: 2, Down: 1, Multi: true}, 4, 2, api.Plane{}, "0f8c",
			[]int{0, 1, 0, 0, 0, 0, 0, 0},
			[]int{0, 136, 0, 0, 0, 0, 0, 0}},
	}
}
