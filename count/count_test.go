package count_test

import (
	"slices"
	"testing"

	"stepstone/count"
)

// state is what a meter tells: Taken, Reads, Calls, Peak, Starts.
type state [5]int

func tell(m *count.Meter) state {
	return state{m.Taken(), m.Reads(), m.Calls(), m.Peak(), m.Starts()}
}

func expect(t *testing.T, m *count.Meter, want state) {
	t.Helper()
	if got := tell(m); got != want {
		t.Fatalf("%v, not %v", got, want)
	}
}

// after makes a meter that was told these: r Read, c Call, s Start.
func after(told string) *count.Meter {
	m := count.New()
	tellAll(m, told)
	return m
}

func tellAll(m *count.Meter, told string) {
	for _, x := range told {
		switch x {
		case 'r':
			m.Read()
		case 'c':
			m.Call()
		case 's':
			m.Start()
		}
	}
}

// P3.1

func TestMeter(t *testing.T) {
	for told, want := range map[string]state{
		"":          {0, 0, 0, 0, 0},
		"r":         {1, 1, 0, 1, 0},
		"c":         {1, 0, 1, 1, 0},
		"s":         {0, 0, 0, 0, 1},
		"ss":        {0, 0, 0, 0, 2},
		"rcsr":      {1, 2, 1, 2, 1},
		"rrc":       {3, 2, 1, 3, 0},
		"srrcs":     {0, 2, 1, 3, 2},
		"rsrrrsc":   {1, 4, 1, 3, 2},
		"rsrrscccc": {4, 3, 4, 4, 2},
		"rrrsrrsr":  {1, 6, 0, 3, 2},
	} {
		t.Run(told, func(t *testing.T) { expect(t, after(told), want) })
	}
}

func TestMeterAgainstHistory(t *testing.T) {
	m := count.New()
	want, seed := state{}, uint64(1)
	operations := []int{0}
	for range 5000 {
		seed = seed*6364136223846793005 + 1442695040888963407
		switch seed >> 60 {
		case 0, 1, 2:
			m.Start()
			want[4]++
			operations = append(operations, 0)
		case 3, 4, 5, 6, 7:
			m.Call()
			want[2]++
			operations[len(operations)-1]++
		default:
			m.Read()
			want[1]++
			operations[len(operations)-1]++
		}
		want[0], want[3] = operations[len(operations)-1], slices.Max(operations)
		expect(t, m, want)
	}
}

func TestAskingTakesNoStep(t *testing.T) {
	m := after("rcsr")
	for range 3 {
		expect(t, m, state{1, 2, 1, 2, 1})
		count.Sum(m, m)
		count.Worst(m, m)
	}
}

func TestMetersStandApart(t *testing.T) {
	a, b := count.New(), count.New()
	tellAll(a, "rcsr")
	expect(t, b, state{})
	tellAll(b, "c")
	expect(t, a, state{1, 2, 1, 2, 1})
	expect(t, b, state{1, 0, 1, 1, 0})
}

func TestSumWorst(t *testing.T) {
	a, b, none := after("rcsr"), after("scccsr"), after("s")
	for _, x := range []struct {
		of         []*count.Meter
		sum, worst int
	}{
		{nil, 0, 0},
		{[]*count.Meter{}, 0, 0},
		{[]*count.Meter{nil}, 0, 0},
		{[]*count.Meter{nil, nil}, 0, 0},
		{[]*count.Meter{none}, 0, 0},
		{[]*count.Meter{a}, 3, 2},
		{[]*count.Meter{b}, 4, 3},
		{[]*count.Meter{a, b}, 7, 3},
		{[]*count.Meter{b, nil, a, none}, 7, 3},
		{[]*count.Meter{nil, a, none}, 3, 2},
		{[]*count.Meter{a, b, a}, 10, 3},
	} {
		was := slices.Clone(x.of)
		if got := count.Sum(x.of...); got != x.sum {
			t.Errorf("Sum of %d: %d, not %d", len(x.of), got, x.sum)
		}
		if got := count.Worst(x.of...); got != x.worst {
			t.Errorf("Worst of %d: %d, not %d", len(x.of), got, x.worst)
		}
		if !slices.Equal(x.of, was) {
			t.Error("the list was changed")
		}
	}
}

func TestMetersArentKept(t *testing.T) {
	a, b := after("r"), after("rr")
	l := []*count.Meter{a, b}
	count.Sum(l...)
	count.Worst(l...)
	l[0], l[1] = nil, nil
	a.Read()
	if count.Sum(a, b) != 4 || count.Worst(a, b) != 2 || count.Sum() != 0 || count.Worst() != 0 {
		t.Fatal(count.Sum(a, b), count.Worst(a, b), count.Sum(), count.Worst())
	}
}

func TestNil(t *testing.T) {
	var m *count.Meter
	tellAll(m, "srcsrc")
	expect(t, m, state{})
}
