package tests

import (
	"encoding/json"
	"os"
	"os/exec"
	"path/filepath"
	"strings"
	"testing"
)

// Over the network of a run the ends hear nothing but what they have sent each other, and a spoilt byte does not open: no run brings an
// end a hello of the wrong side, a check that is not right or a frame that may not be. So those are forged, with the ends' own keys,
// within the package: testdata/forged_conn.go.txt is laid beside its files for one run of the go tool.
func TestP17ForgedPackets(t *testing.T) {
	root, err := filepath.Abs("..")
	if err != nil {
		t.Fatal(err)
	}
	program, err := os.ReadFile(filepath.Join(root, "impl", "l13_conn.go"))
	if err != nil || !strings.Contains(string(program), "type endpoint struct") {
		t.Skip("the ends are built in another way")
	}
	overlay, _ := json.Marshal(map[string]map[string]string{"Replace": {
		filepath.Join(root, "impl", "forged_conn_test.go"): filepath.Join(root, "tests", "testdata", "forged_conn.go.txt"),
	}})
	file := filepath.Join(t.TempDir(), "overlay.json")
	if err := os.WriteFile(file, overlay, 0o600); err != nil {
		t.Fatal(err)
	}
	command := exec.Command("go", "test", "-count=1", "-run", "TestForged", "-overlay", file, "./impl")
	command.Dir = root
	if out, err := command.CombinedOutput(); err != nil {
		t.Errorf("%v\n%s", err, out)
	}
}
