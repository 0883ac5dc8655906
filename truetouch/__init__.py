"""Truetouch: conductors' books and programs over rung rows, for all callings, slips and mishearings."""
