package cron

import (
	"math"
	"testing"

	"horologe/api"
	"horologe/cal"
)

// alone is the hop, on (1) or back (-1), of what matches one minute alone: no expression matches so seldom that the horizon's ends could be seen by it.
func alone(t *testing.T, minute, way int) hop {
	return func(d api.Date) int {
		m, err := cal.Minute(d)
		if err != api.OK {
			t.Fatalf("Minute(%+v): %v", d, err)
		}
		if far := minute - m; far*way >= 0 {
			return far
		}
		return way * dayMinutes
	}
}

func TestP604JustTheHorizonBehind(t *testing.T) {
	for _, after := range []int{0, 29000000} {
		for _, x := range []struct {
			far  int
			want api.Errno
		}{{1, api.OK}, {api.Horizon - 1, api.OK}, {api.Horizon, api.OK}, {api.Horizon + 1, api.ErrNever}, {0, api.ErrNever}, {-1, api.ErrNever}} {
			want := after + x.far
			if x.want != api.OK {
				want = 0
			}
			if n, err := next(after, alone(t, after+x.far, 1)); n != want || err != x.want {
				t.Errorf("next(%d), %d on: %d, %v, not %d, %v", after, x.far, n, err, want, x.want)
			}
		}
	}
}

func TestP604JustTheHorizonAhead(t *testing.T) {
	for _, upto := range []int{0, 29000000} {
		for _, x := range []struct {
			far, after int
			want       api.Errno
		}{
			{0, math.MinInt, api.OK}, {1, math.MinInt, api.OK}, {api.Horizon - 1, math.MinInt, api.OK}, {api.Horizon, math.MinInt, api.OK}, {api.Horizon + 1, math.MinInt, api.ErrNever}, {-1, math.MinInt, api.ErrNever},
			{api.Horizon, upto - api.Horizon - 1, api.OK}, {api.Horizon, upto - api.Horizon, api.ErrNever}, {api.Horizon, upto - api.Horizon - 2, api.OK}, {api.Horizon + 1, upto - api.Horizon - 2, api.ErrNever},
			{0, upto - 1, api.OK}, {1, upto - 1, api.ErrNever}, {1, upto - 2, api.OK},
		} {
			want := upto - x.far
			if x.want != api.OK {
				want = 0
			}
			if n, err := prev(upto, x.after, alone(t, upto-x.far, -1)); n != want || err != x.want {
				t.Errorf("prev(%d, %d), %d back: %d, %v, not %d, %v", upto, x.after, x.far, n, err, want, x.want)
			}
		}
	}
}
